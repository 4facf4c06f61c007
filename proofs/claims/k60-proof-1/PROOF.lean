import PyProof.Rows.All
import Wide.All
import OpenK.AllK
import Wide.FinOn
import HandS.ForMost
import HandS.IsInst
import HandS.Wide
import HandS.Star
import HandS.Gcd
import HandS.Flow
import HandS.Style
import HandS.TupAny
import HandS.TupMul
import HandS.Zip
import HandS.SortKw
import KE.DataMinMax
import PyProof.ListMulRoad
import PyProof.FactsAll.tuple_2
import KE.KUnpackStar
import HandS.Small
import HandS.Conv
import HandS.RaiseMore
import PyProof.ReprLen
import PyProof.AutoSeq1
import KE.GoesMore
import PyProof.EnumMake
import KE.SortData
import HandS.Deep
import PySem.Challenge.RW_tripmeans_k60_all_trees_counted_and_list
set_option Elab.async false
set_option linter.all false
/-! data above the heap: what a value stands for, what is known and what is owned -/
namespace Dl
open PySem L2

abbrev D := PyData
abbrev Frag := PySem.W.Frag
/-- no list or tuple of data is longer -/
def Lm : Nat := 100000
theorem Lm_le {n : Nat} (h : n ≤ Lm) : n ≤ sizeLine := Nat.le_trans h (by decide)
theorem Lm_lt {n : Nat} (h : n ≤ Lm) : n < sizeLine := Nat.lt_of_le_of_lt h (by decide)

/-- all that G knows H knows -/
def Ex (G H : Hp) : Prop := ∀ a o, G a = some o → H a = some o
theorem Ex.refl (H : Hp) : Ex H H := fun _ _ h => h
theorem Ex.trans {H H1 H2 : Hp} (a : Ex H H1) (b : Ex H1 H2) : Ex H H2 := fun x o h => b x o (a x o h)
theorem Ex.new {H : Hp} {p : Addr} {o : HO} (h : H p = none) : Ex H (upd H p o) := fun a u e => by
  rw [upd_ne (ne_of_none e h)]; exact e
theorem Ex.mut {H H' : Hp} {p : Addr} {o : HO} (e : Ex H H') (h : H p = none) : Ex H (upd H' p o) := fun a u ha => by
  rw [upd_ne (ne_of_none ha h)]; exact e a u ha
theorem Ex.both {G H : Hp} {p : Addr} {o : HO} (e : Ex G H) : Ex (upd G p o) (upd H p o) := fun a u ha => by
  by_cases h : a = p
  · subst h; rw [upd_same] at *; exact ha
  · rw [upd_ne h] at *; exact e a u ha
theorem Ex.put {G H : Hp} {p : Addr} {o : HO} (e : Ex G H) (h : H p = some o) : Ex (upd G p o) H := fun a u ha => by
  by_cases q : a = p
  · subst q; rw [upd_same] at ha; rw [h]; exact ha
  · rw [upd_ne q] at ha; exact e a u ha

mutual
/-- the value v stands for the data d -/
def Rp (K : Frag) (G : Hp) : D → V → Prop
  | .none, v => v = .non
  | .bool b, v => v = .bl b
  | .int i, v => v = .int i
  | .str x, v => v = .str x
  | .list ds, v => ∃ a xs, v = .ref a ∧ G a = some (.lst xs) ∧ ds.length ≤ Lm ∧ RpA K G ds xs
  | .tuple ds, v => ∃ a xs, v = .ref a ∧ SqT K G a xs ∧ ds.length ≤ Lm ∧ RpA K G ds xs
  | .dict _, _ => False
def RpA (K : Frag) (G : Hp) : List D → List V → Prop
  | [], vs => vs = []
  | d :: ds, vs => ∃ v ws, vs = v :: ws ∧ Rp K G d v ∧ RpA K G ds ws
end

theorem ex_rd {H H' : Hp} {a : Addr} {u : HO} (e : Ex H H') (h : Rd H a u) : Rd H' a u := by
  rcases h with h | ⟨o, h⟩
  · exact Or.inl (e a _ h)
  · exact Or.inr ⟨o, e a _ h⟩
theorem ex_t {K : Frag} {H H' : Hp} {a : Addr} {xs : List V} (e : Ex H H') (h : SqT K H a xs) : SqT K H' a xs := by
  rcases h with h | h
  · exact Or.inl (ex_rd e h)
  · exact Or.inr h

section
variable {K : Frag} {G G' H : Hp}
mutual
theorem Rp.mono (e : Ex G G') : ∀ (d : D) {v : V}, Rp K G d v → Rp K G' d v
  | .none, _, h => h
  | .bool _, _, h => h
  | .int _, _, h => h
  | .str _, _, h => h
  | .list ds, _, h => by
    unfold Rp at *; obtain ⟨a, xs, e1, h1, h2, h3⟩ := h
    exact ⟨a, xs, e1, e _ _ h1, h2, RpA.mono e ds h3⟩
  | .tuple ds, _, h => by
    unfold Rp at *; obtain ⟨a, xs, e1, h1, h2, h3⟩ := h
    exact ⟨a, xs, e1, ex_t e h1, h2, RpA.mono e ds h3⟩
  | .dict _, _, h => by unfold Rp at h; exact h.elim
theorem RpA.mono (e : Ex G G') : ∀ (ds : List D) {vs : List V}, RpA K G ds vs → RpA K G' ds vs
  | [], _, h => by unfold RpA at *; exact h
  | d :: ds, _, h => by
    unfold RpA at *; obtain ⟨v, ws, e1, h1, h2⟩ := h
    exact ⟨v, ws, e1, Rp.mono e d h1, RpA.mono e ds h2⟩
end

theorem RpA.nil : RpA K G [] [] := by unfold RpA; rfl
theorem RpA.cons {d : D} {ds : List D} {v : V} {vs : List V} (h : Rp K G d v) (t : RpA K G ds vs) : RpA K G (d :: ds) (v :: vs) := by
  unfold RpA; exact ⟨v, vs, rfl, h, t⟩
theorem RpA.inv {d : D} {ds : List D} {vs : List V} (h : RpA K G (d :: ds) vs) : ∃ v ws, vs = v :: ws ∧ Rp K G d v ∧ RpA K G ds ws := by
  unfold RpA at h; exact h
theorem RpA.length : ∀ {ds : List D} {vs : List V}, RpA K G ds vs → vs.length = ds.length
  | [], _, h => by unfold RpA at h; rw [h]; rfl
  | d :: ds, _, h => by
    obtain ⟨v, ws, rfl, _, h2⟩ := h.inv
    simp [RpA.length h2]
theorem RpA.append : ∀ {ds es : List D} {vs ws : List V}, RpA K G ds vs → RpA K G es ws → RpA K G (ds ++ es) (vs ++ ws)
  | [], _, _, _, h, h' => by unfold RpA at h; subst h; exact h'
  | d :: ds, _, _, _, h, h' => by
    obtain ⟨v, ws, rfl, h1, h2⟩ := h.inv
    exact RpA.cons h1 (RpA.append h2 h')
theorem RpA.get : ∀ {ds : List D} {vs : List V} {i : Nat} {d : D}, RpA K G ds vs → ds[i]? = some d → ∃ v, vs[i]? = some v ∧ Rp K G d v
  | [], _, _, _, _, e => by simp at e
  | d :: ds, _, 0, _, h, e => by
    obtain ⟨v, ws, rfl, h1, h2⟩ := h.inv
    simp at e; subst e; exact ⟨v, rfl, h1⟩
  | d :: ds, _, i + 1, _, h, e => by
    obtain ⟨v, ws, rfl, h1, h2⟩ := h.inv
    obtain ⟨u, e1, e2⟩ := RpA.get (i := i) h2 (by simpa using e)
    exact ⟨u, by simpa using e1, e2⟩
theorem RpA.get' : ∀ {ds : List D} {vs : List V} {i : Nat} {v : V}, RpA K G ds vs → vs[i]? = some v → ∃ d, ds[i]? = some d ∧ Rp K G d v := by
  intro ds vs i v h e
  have hl := h.length
  have hi : i < vs.length := (List.getElem?_eq_some_iff.mp e).1
  have hd : ds[i]? = some ds[i] := by simp [show i < ds.length by omega]
  obtain ⟨u, e1, e2⟩ := h.get hd
  rw [e] at e1; cases e1
  exact ⟨_, hd, e2⟩
theorem RpA.take : ∀ (n : Nat) {ds : List D} {vs : List V}, RpA K G ds vs → RpA K G (ds.take n) (vs.take n)
  | 0, _, _, _ => by simp; exact RpA.nil
  | n + 1, [], _, h => by unfold RpA at h; subst h; simp; exact RpA.nil
  | n + 1, d :: ds, _, h => by
    obtain ⟨v, ws, rfl, h1, h2⟩ := h.inv
    simp; exact RpA.cons h1 (RpA.take n h2)
theorem RpA.drop : ∀ (n : Nat) {ds : List D} {vs : List V}, RpA K G ds vs → RpA K G (ds.drop n) (vs.drop n)
  | 0, _, _, h => by simpa using h
  | n + 1, [], _, h => by unfold RpA at h; subst h; simp; exact RpA.nil
  | n + 1, d :: ds, _, h => by
    obtain ⟨v, ws, rfl, h1, h2⟩ := h.inv
    simpa using RpA.drop n h2
theorem RpA.set : ∀ (n : Nat) {ds : List D} {vs : List V} {d : D} {v : V}, RpA K G ds vs → Rp K G d v → RpA K G (ds.set n d) (vs.set n v)
  | _, [], _, _, _, h, _ => by unfold RpA at h; subst h; simp; exact RpA.nil
  | 0, e :: ds, _, _, _, h, r => by
    obtain ⟨v, ws, rfl, h1, h2⟩ := h.inv
    simp; exact RpA.cons r h2
  | n + 1, e :: ds, _, _, _, h, r => by
    obtain ⟨v, ws, rfl, h1, h2⟩ := h.inv
    simp; exact RpA.cons h1 (RpA.set n h2 r)
theorem RpA.ints : ∀ {ns : List Int} {vs : List V}, RpA K G (ns.map PyData.int) vs ↔ vs = ns.map V.int
  | [], vs => by unfold RpA; simp
  | n :: ns, vs => by
    constructor
    · intro h
      obtain ⟨v, ws, rfl, h1, h2⟩ := h.inv
      unfold Rp at h1
      rw [h1, RpA.ints.mp h2]; rfl
    · rintro rfl
      exact RpA.cons (by unfold Rp; rfl) (RpA.ints.mpr rfl)
theorem RpA.bools : ∀ {ns : List Bool} {vs : List V}, RpA K G (ns.map PyData.bool) vs ↔ vs = ns.map V.bl
  | [], vs => by unfold RpA; simp
  | n :: ns, vs => by
    constructor
    · intro h
      obtain ⟨v, ws, rfl, h1, h2⟩ := h.inv
      unfold Rp at h1
      rw [h1, RpA.bools.mp h2]; rfl
    · rintro rfl
      exact RpA.cons (by unfold Rp; rfl) (RpA.bools.mpr rfl)

theorem Rp.int {i : Int} : Rp K G (.int i) (.int i) := by unfold Rp; rfl
theorem Rp.bl {i : Bool} : Rp K G (.bool i) (.bl i) := by unfold Rp; rfl
theorem Rp.str {i : Str} : Rp K G (.str i) (.str i) := by unfold Rp; rfl
theorem Rp.non : Rp K G .none .non := by unfold Rp; rfl
theorem Rp.lst {a : Addr} {xs : List V} {ds : List D} (h : G a = some (.lst xs)) (hl : ds.length ≤ Lm) (r : RpA K G ds xs) : Rp K G (.list ds) (.ref a) := by
  unfold Rp; exact ⟨a, xs, rfl, h, hl, r⟩
theorem Rp.tup {a : Addr} {xs : List V} {ds : List D} (h : SqT K G a xs) (hl : ds.length ≤ Lm) (r : RpA K G ds xs) : Rp K G (.tuple ds) (.ref a) := by
  unfold Rp; exact ⟨a, xs, rfl, h, hl, r⟩
theorem Rp.int' {i : Int} {v : V} (h : Rp K G (.int i) v) : v = .int i := by unfold Rp at h; exact h
theorem Rp.bl' {i : Bool} {v : V} (h : Rp K G (.bool i) v) : v = .bl i := by unfold Rp at h; exact h
theorem Rp.str' {i : Str} {v : V} (h : Rp K G (.str i) v) : v = .str i := by unfold Rp at h; exact h
theorem Rp.non' {v : V} (h : Rp K G .none v) : v = .non := by unfold Rp at h; exact h
theorem Rp.lst' {ds : List D} {v : V} (h : Rp K G (.list ds) v) : ∃ a xs, v = .ref a ∧ G a = some (.lst xs) ∧ ds.length ≤ Lm ∧ RpA K G ds xs := by unfold Rp at h; exact h
theorem Rp.tup' {ds : List D} {v : V} (h : Rp K G (.tuple ds) v) : ∃ a xs, v = .ref a ∧ SqT K G a xs ∧ ds.length ≤ Lm ∧ RpA K G ds xs := by unfold Rp at h; exact h

mutual
/-- the layer's own word for data -/
theorem Rp.dp (e : Ex G H) : ∀ (d : D) {v : V}, Rp K G d v → Dp K H v d
  | .none, _, h => by rw [h.non']; exact .non
  | .bool _, _, h => by rw [h.bl']; exact .bl _
  | .int _, _, h => by rw [h.int']; exact .int _
  | .str _, _, h => by rw [h.str']; exact .str _
  | .list ds, _, h => by
    obtain ⟨a, xs, rfl, h1, _, h3⟩ := h.lst'
    exact .lst (SqL.of (e _ _ h1)) (RpA.dp e ds h3)
  | .tuple ds, _, h => by
    obtain ⟨a, xs, rfl, h1, _, h3⟩ := h.tup'
    exact .tup (ex_t e h1) (RpA.dp e ds h3)
  | .dict _, _, h => by unfold Rp at h; exact h.elim
theorem RpA.dp (e : Ex G H) : ∀ (ds : List D) {vs : List V}, RpA K G ds vs → DpAll K H vs ds
  | [], _, h => by unfold RpA at h; rw [h]; exact .nil
  | d :: ds, _, h => by
    obtain ⟨v, ws, rfl, h1, h2⟩ := h.inv
    exact .cons (Rp.dp e d h1) (RpA.dp e ds h2)
end
end

/-! ### the deck: a dict and its list, owned -/
structure Zone where
  deck : Option (Addr × Addr) := none
  given : Option Addr := none
def Zone.no : Zone := {}
def deckO (c : Addr) (mixed draws : Int) : HO := .dK [(Sum.inr ("left" : Str), .ref c), (Sum.inr ("mixed" : Str), .int mixed), (Sum.inr ("draws" : Str), .int draws)]
def DeckIn (Z : Zone) (G H : Hp) : Prop := match Z.deck with
  | none => True
  | some (dk, c) => G dk = none ∧ G c = none ∧ dk ≠ c ∧ ∃ (cells : List Int) (mixed draws : Int), cells.length ≤ 64 ∧ 0 ≤ mixed ∧ mixed < 2147483629 ∧ 0 ≤ draws ∧
      H dk = some (deckO c mixed draws) ∧ H c = some (.lst (cells.map V.int))
def inDeck (Z : Zone) (a : Addr) : Prop := match Z.deck with
  | none => False
  | some (dk, c) => a = dk ∨ a = c
def inZ (Z : Zone) (a : Addr) : Prop := inDeck Z a ∨ Z.given = some a

/-! ### what a slot holds -/
inductive SD where
  | un | dat (d : D) | own (ds : List D) | deck | raw (v : V)

def SlotRp (K : Frag) (Z : Zone) (H0 G H : Hp) : Option V → SD → Prop
  | _, .un => True
  | o, .dat d => ∃ v, o = some v ∧ Rp K G d v
  | o, .own ds => ∃ p xs, o = some (.ref p) ∧ (H0 p = none ∨ Z.given = some p) ∧ G p = none ∧ ¬ inDeck Z p ∧ ds.length ≤ Lm ∧ H p = some (.lst xs) ∧ RpA K G ds xs
  | o, .deck => ∃ dk c, Z.deck = some (dk, c) ∧ o = some (.ref dk)
  | o, .raw v => o = some v
def SD.isOwn : SD → Bool
  | .own _ => true
  | _ => false

/-- between a def's beginning (G0 known, H0 there) and here -/
structure State (K : Frag) (Z : Zone) (G0 H0 G H : Hp) (σ : St) (ds : List SD) : Prop where
  ex : Ex G H
  exg : Ex G0 G
  nw : ∀ p, G p ≠ none → G0 p ≠ none ∨ H0 p = none ∨ Z.given = some p
  exm : ∀ a o, H0 a = some o → ¬ inZ Z a → H a = some o
  deck : DeckIn Z G H
  len : σ.length = ds.length
  giv : ∀ p, Z.given = some p → H p ≠ none
  slots : ∀ (i : Nat) (sd : SD), ds[i]? = some sd → SlotRp K Z H0 G H (σ[i]?).join sd
  dist : ∀ (i j : Nat) (ds1 ds2 : List D) (p : Addr), i ≠ j → ds[i]? = some (.own ds1) → ds[j]? = some (.own ds2) → σ[i]? = some (some (.ref p)) → σ[j]? ≠ some (some (.ref p))

theorem SlotRp.grow {K : Frag} {Z : Zone} {H0 G H G' H' : Hp} {o : Option V} {sd : SD} (h : SlotRp K Z H0 G H o sd)
    (e : Ex G G') (hp : ∀ p, H p ≠ none → G p = none → G' p = none) (eh : ∀ p xs, sd.isOwn = true → o = some (.ref p) → H p = some (.lst xs) → H' p = some (.lst xs)) :
    SlotRp K Z H0 G' H' o sd := by
  cases sd with
  | un => trivial
  | dat d => obtain ⟨v, e1, r⟩ := h; exact ⟨v, e1, r.mono e⟩
  | own ds =>
    obtain ⟨p, xs, e1, h0, h1, h2, h3, h4, h5⟩ := h
    exact ⟨p, xs, e1, h0, hp p (by rw [h4]; exact fun z => nomatch z) h1, h2, h3, eh p xs rfl e1 h4, h5.mono e⟩
  | deck => exact h
  | raw v => exact h

/-- what is known grows by what is new, nothing but the deck is changed -/
structure Gr (Z : Zone) (G H G' H' : Hp) : Prop where
  g : Ex G G'
  h : ∀ a o, H a = some o → ¬ inDeck Z a → H' a = some o
  nw : ∀ p, G' p ≠ none → G p ≠ none ∨ H p = none
  dom : ∀ p, H p ≠ none → H' p ≠ none
theorem Gr.refl {Z : Zone} {G H : Hp} : Gr Z G H G H := ⟨Ex.refl G, fun _ _ h _ => h, fun _ h => .inl h, fun _ h => h⟩
theorem Gr.trans {Z : Zone} {G H G1 H1 G2 H2 : Hp} (a : Gr Z G H G1 H1) (b : Gr Z G1 H1 G2 H2) : Gr Z G H G2 H2 :=
  ⟨a.g.trans b.g, fun x o h z => b.h x o (a.h x o h z) z, fun p h => by
    rcases b.nw p h with h1 | h1
    · exact a.nw p h1
    · right
      cases e : H p with
      | none => rfl
      | some o => exact absurd h1 (a.dom p (by rw [e]; exact fun z => nomatch z)), fun p h => b.dom p (a.dom p h)⟩

section
variable {K : Frag} {Z : Zone} {G0 H0 G H G' H' : Hp} {σ : St} {ds : List SD}

/-- all that was there stays, what is newly known is new -/
theorem State.grow (s : State K Z G0 H0 G H σ ds) (eg : Ex G G') (e' : Ex G' H') (eh : Ex H H') (nw : ∀ p, G' p ≠ none → G p ≠ none ∨ H p = none) :
    State K Z G0 H0 G' H' σ ds := by
  have hp : ∀ p, H p ≠ none → G p = none → G' p = none := by
    intro p h1 h2
    cases h : G' p with
    | none => rfl
    | some o => rcases nw p (by rw [h]; exact fun z => nomatch z) with h3 | h3
                · exact absurd h2 h3
                · exact absurd h3 h1
  have nn : ∀ {p : Addr} {o : HO}, H p = some o → H p ≠ none := fun h => by rw [h]; exact fun z => nomatch z
  have keepNe : ∀ q, H q ≠ none → H' q ≠ none := by
    intro q h1 h2
    cases h : H q with
    | none => exact h1 h
    | some o => rw [eh q o h] at h2; cases h2
  refine ⟨e', s.exg.trans eg, ?_, fun a o h1 h2 => eh a o (s.exm a o h1 h2), ?_, s.len, fun p h => keepNe p (s.giv p h), fun i sd h => (s.slots i sd h).grow eg hp (fun p xs _ _ h => eh _ _ h), s.dist⟩
  · intro p h
    rcases nw p h with h1 | h1
    · exact s.nw p h1
    · right; left
      cases h2 : H0 p with
      | none => rfl
      | some o =>
        by_cases hz : inZ Z p
        · exfalso
          rcases hz with hz | hz
          · have hd := s.deck
            unfold DeckIn at hd
            unfold inDeck at hz
            split at hz
            · exact hz
            · rename_i dk c hq
              rw [hq] at hd
              obtain ⟨_, _, _, cells, mixed, draws, _, _, _, _, k1, k2⟩ := hd
              rcases hz with rfl | rfl
              · exact nn k1 h1
              · exact nn k2 h1
          · exact s.giv p hz h1
        · exact absurd h1 (nn (s.exm p o h2 hz))
  · have hd := s.deck
    unfold DeckIn at *
    split
    · trivial
    · rename_i dk c hq
      rw [hq] at hd
      obtain ⟨d1, d2, d3, cells, mixed, draws, b1, b2, b3, b4, k1, k2⟩ := hd
      exact ⟨hp _ (nn k1) d1, hp _ (nn k2) d2, d3, cells, mixed, draws, b1, b2, b3, b4, eh _ _ k1, eh _ _ k2⟩

/-- a new object that stands for data -/
theorem State.laid (s : State K Z G0 H0 G H σ ds) {p : Addr} {o : HO} (hp : H p = none) : State K Z G0 H0 (upd G p o) (upd H p o) σ ds ∧ Gr Z G H (upd G p o) (upd H p o) := by
  have hg : G p = none := by
    cases h : G p with
    | none => rfl
    | some u => rw [s.ex p u h] at hp; cases hp
  refine ⟨s.grow (Ex.new hg) s.ex.both (Ex.new hp) (fun q hq => ?_), ⟨Ex.new hg, fun a u h _ => Ex.new hp a u h, ?nw, fun q h z => ?_⟩⟩
  case nw =>
    intro q hq
    by_cases h : q = p
    · right; rw [h]; exact hp
    · left; rw [upd_ne h] at hq; exact hq
  · by_cases h : q = p
    · right; rw [h]; exact hp
    · left; rw [upd_ne h] at hq; exact hq
  · by_cases e : q = p
    · rw [e, upd_same] at z; cases z
    · rw [upd_ne e] at z; exact h z

/-- a new object that is let go, or held raw -/
theorem State.aside (s : State K Z G0 H0 G H σ ds) {p : Addr} {o : HO} (hp : H p = none) : State K Z G0 H0 G (upd H p o) σ ds := by
  have hg : G p = none := by
    cases h : G p with
    | none => rfl
    | some u => rw [s.ex p u h] at hp; cases hp
  exact s.grow (Ex.refl G) (s.ex.mut hg) (Ex.new hp) (fun q hq => .inl hq)

/-- a slot is set to something that is not owned -/
theorem State.set (s : State K Z G0 H0 G H σ ds) {i : Nat} {v : V} {sd : SD} (hs : sd.isOwn = false) (r : SlotRp K Z H0 G H (some v) sd) :
    State K Z G0 H0 G H (σ.set i (some v)) (ds.set i sd) := by
  refine ⟨s.ex, s.exg, s.nw, s.exm, s.deck, by simp [s.len], s.giv, fun j sd' h => ?_, fun j k d1 d2 p hjk h1 h2 h3 => ?_⟩
  · by_cases e : j = i
    · subst e
      have hl : j < ds.length := by
        rcases Nat.lt_or_ge j ds.length with h0 | h0
        · exact h0
        · rw [List.getElem?_eq_none (by simp; exact h0)] at h; cases h
      rw [List.getElem?_set_self hl] at h; cases h
      rw [List.getElem?_set_self (by rw [s.len]; exact hl)]; exact r
    · rw [List.getElem?_set_ne (Ne.symm e)] at *; exact s.slots j sd' h
  · have g : ∀ {j : Nat} {d1 : List D}, (ds.set i sd)[j]? = some (.own d1) → j ≠ i ∧ ds[j]? = some (.own d1) := by
      intro j d1 h
      by_cases e : j = i
      · subst e
        exfalso
        rcases Nat.lt_or_ge j ds.length with h0 | h0
        · rw [List.getElem?_set_self h0] at h; cases h; cases hs
        · rw [List.getElem?_eq_none (by simp; exact h0)] at h; cases h
      · rw [List.getElem?_set_ne (Ne.symm e)] at h; exact ⟨e, h⟩
    have a := g h1; have b := g h2
    rw [List.getElem?_set_ne (Ne.symm a.1)] at h3
    rw [List.getElem?_set_ne (Ne.symm b.1)]
    exact s.dist j k d1 d2 p hjk a.2 b.2 h3

/-- more slots forgotten -/
theorem State.forget (s : State K Z G0 H0 G H σ ds) {i : Nat} : State K Z G0 H0 G H σ (ds.set i .un) := by
  refine ⟨s.ex, s.exg, s.nw, s.exm, s.deck, by simp [s.len], s.giv, fun j sd' h => ?_, fun j k d1 d2 p hjk h1 h2 h3 => ?_⟩
  · by_cases e : j = i
    · subst e
      rcases Nat.lt_or_ge j ds.length with h0 | h0
      · rw [List.getElem?_set_self h0] at h; cases h; trivial
      · rw [List.getElem?_eq_none (by simp; exact h0)] at h; cases h
    · rw [List.getElem?_set_ne (Ne.symm e)] at h; exact s.slots j sd' h
  · have g : ∀ {j : Nat} {d1 : List D}, (ds.set i .un)[j]? = some (.own d1) → ds[j]? = some (.own d1) := by
      intro j d1 h
      by_cases e : j = i
      · subst e
        rcases Nat.lt_or_ge j ds.length with h0 | h0
        · rw [List.getElem?_set_self h0] at h; cases h
        · rw [List.getElem?_eq_none (by simp; exact h0)] at h; cases h
      · rw [List.getElem?_set_ne (Ne.symm e)] at h; exact h
    exact s.dist j k d1 d2 p hjk (g h1) (g h2) h3

/-- a deck stands where it stands -/
theorem DeckIn.ne {Z : Zone} {G H : Hp} (h : DeckIn Z G H) {a : Addr} (z : inDeck Z a) : H a ≠ none ∧ G a = none := by
  unfold DeckIn at h; unfold inDeck at z
  split at z
  · exact z.elim
  · rename_i dk c hq
    rw [hq] at h
    obtain ⟨d1, d2, _, cells, mixed, draws, _, _, _, _, k1, k2⟩ := h
    rcases z with rfl | rfl
    · exact ⟨by rw [k1]; exact (fun z => by cases z), d1⟩
    · exact ⟨by rw [k2]; exact (fun z => by cases z), d2⟩

/-- the slots as they stood, over what has grown since -/
theorem State.regrow {σ2 : St} {ds2 : List SD} (s : State K Z G0 H0 G H σ ds) (t : State K Z G0 H0 G' H' σ2 ds2) (gr : Gr Z G H G' H') : State K Z G0 H0 G' H' σ ds := by
  refine ⟨t.ex, t.exg, t.nw, t.exm, t.deck, s.len, t.giv, fun i sd h => ?_, s.dist⟩
  have q := s.slots i sd h
  cases sd with
  | un => trivial
  | dat d => obtain ⟨v, e1, r⟩ := q; exact ⟨v, e1, r.mono gr.g⟩
  | own l =>
    obtain ⟨p, xs, e1, h0, h1, h2, h3, h4, h5⟩ := q
    refine ⟨p, xs, e1, h0, ?_, h2, h3, gr.h _ _ h4 h2, h5.mono gr.g⟩
    cases e : G' p with
    | none => rfl
    | some o =>
      rcases gr.nw p (by rw [e]; exact fun z => nomatch z) with z | z
      · exact absurd h1 z
      · rw [h4] at z; cases z
  | deck => exact q
  | raw v => exact q

/-- behind a call: what the callee did is known by its own state -/
theorem State.gr {Z1 : Zone} (t : State K Z1 G H G' H' [] []) (hg : Z1.given = none) (hz : Z1.deck = none ∨ Z1.deck = Z.deck) (hd : DeckIn Z G H) : Gr Z G H G' H' := by
  have hin : ∀ a, inZ Z1 a → inDeck Z a := by
    intro a h
    rcases h with h | h
    · unfold inDeck at *
      rcases hz with z | z
      · rw [z] at h; exact h.elim
      · rw [z] at h; exact h
    · rw [hg] at h; cases h
  refine ⟨t.exg, fun a o h z => t.exm a o h fun q => z (hin a q), fun p h => by
      rcases t.nw p h with h1 | h1 | h1
      · exact .inl h1
      · exact .inr h1
      · rw [hg] at h1; exact absurd h1 (by simp), fun p h z => ?_⟩
  by_cases q : inZ Z1 p
  · rcases q with q | q
    · exact (t.deck.ne q).1 z
    · exact t.giv p q z
  · cases e : H p with
    | none => exact h e
    | some o => rw [t.exm p o e q] at z; cases z
theorem State.after {Z1 : Zone} (s : State K Z G0 H0 G H σ ds) (t : State K Z1 G H G' H' [] []) (hg : Z1.given = none) (hz : Z1.deck = none ∨ Z1.deck = Z.deck) : State K Z G0 H0 G' H' σ ds ∧ Gr Z G H G' H' := by
  have gr : Gr Z G H G' H' := t.gr hg hz s.deck
  have gp : ∀ p, H p ≠ none → G p = none → G' p = none := by
    intro p h1 h2
    cases e : G' p with
    | none => rfl
    | some o =>
      rcases gr.nw p (by rw [e]; exact fun z => nomatch z) with z | z
      · exact absurd h2 z
      · exact absurd z h1
  have deck : DeckIn Z G' H' := by
    rcases hz with z | z
    · have hd := s.deck
      unfold DeckIn at *
      split
      · trivial
      · rename_i dk c hq
        rw [hq] at hd
        obtain ⟨d1, d2, d3, cells, mixed, draws, b1, b2, b3, b4, k1, k2⟩ := hd
        have keep : ∀ a o, H a = some o → H' a = some o := fun a o h => t.exm a o h (by
          rintro (q | q)
          · unfold inDeck at q; rw [z] at q; exact q
          · rw [hg] at q; cases q)
        exact ⟨gp _ (by rw [k1]; exact fun z => nomatch z) d1, gp _ (by rw [k2]; exact fun z => nomatch z) d2, d3, cells, mixed, draws, b1, b2, b3, b4, keep _ _ k1, keep _ _ k2⟩
    · have hd := t.deck
      unfold DeckIn at *
      rw [z] at hd; exact hd
  have st : State K Z G0 H0 G' H' [] [] := by
    refine ⟨t.ex, s.exg.trans t.exg, fun p h => ?_, fun a o h1 h2 => gr.h a o (s.exm a o h1 h2) (fun q => h2 (.inl q)), deck, rfl, fun p h => gr.dom p (s.giv p h), fun i sd h => by simp at h, fun i j d1 d2 p _ h => by simp at h⟩
    rcases gr.nw p h with h1 | h1
    · exact s.nw p h1
    · right; left
      cases e : H0 p with
      | none => rfl
      | some o =>
        by_cases hz : inZ Z p
        · rcases hz with hz | hz
          · exact absurd h1 (s.deck.ne hz).1
          · exact absurd h1 (s.giv p hz)
        · rw [s.exm p o e hz] at h1; cases h1
  exact ⟨s.regrow st gr, gr⟩
/-- the slots let go -/
theorem State.drop (s : State K Z G0 H0 G H σ ds) : State K Z G0 H0 G H [] [] :=
  ⟨s.ex, s.exg, s.nw, s.exm, s.deck, rfl, s.giv, fun i sd h => by simp at h, fun i j d1 d2 p _ h => by simp at h⟩

/-- no owned slot is at p -/
def NoOwn (σ : St) (ds : List SD) (p : Addr) : Prop := ∀ (i : Nat) (l : List D), ds[i]? = some (.own l) → σ[i]? ≠ some (some (.ref p))
theorem State.noOwn (s : State K Z G0 H0 G H σ ds) {p : Addr} (h : H p = none) : NoOwn σ ds p := by
  intro i l hi e
  obtain ⟨q, xs, e1, _, _, _, _, h4, _⟩ := s.slots i _ hi
  rw [e] at e1
  simp only [Option.join_some, Option.some.injEq, V.ref.injEq] at e1
  subst e1; rw [h] at h4; cases h4
/-- an object that nobody knows is changed -/
theorem State.poke (s : State K Z G0 H0 G H σ ds) {p : Addr} {o : HO} (hg : G p = none) (hd : ¬ inDeck Z p) (h0 : H0 p = none) (no : NoOwn σ ds p) : State K Z G0 H0 G (upd H p o) σ ds := by
  refine ⟨s.ex.mut hg, s.exg, s.nw, fun a u h1 h2 => ?_, ?_, s.len, fun q hq z => ?_, fun i sd h => ?_, s.dist⟩
  · rw [upd_ne (ne_of_none h1 h0)]; exact s.exm a u h1 h2
  · have hk := s.deck
    unfold DeckIn at *
    unfold inDeck at hd
    split
    · trivial
    · rename_i dk c hq
      rw [hq] at hk hd
      obtain ⟨d1, d2, d3, cells, mixed, draws, b1, b2, b3, b4, k1, k2⟩ := hk
      have n1 : dk ≠ p := fun e => hd (.inl e.symm)
      have n2 : c ≠ p := fun e => hd (.inr e.symm)
      exact ⟨d1, d2, d3, cells, mixed, draws, b1, b2, b3, b4, by rw [upd_ne n1]; exact k1, by rw [upd_ne n2]; exact k2⟩
  · by_cases e : q = p
    · rw [e, upd_same] at z; cases z
    · rw [upd_ne e] at z; exact s.giv q hq z
  · have q := s.slots i sd h
    cases sd with
    | un => trivial
    | dat d => exact q
    | own l =>
      obtain ⟨r, xs, e1, h1, h2, h3, h4, h5, h6⟩ := q
      refine ⟨r, xs, e1, h1, h2, h3, h4, ?_, h6⟩
      have : r ≠ p := by
        intro e; subst e
        refine no i l h ?_
        cases z : σ[i]? with
        | none => rw [z] at e1; cases e1
        | some o => rw [z] at e1; simp at e1; rw [e1]
      rw [upd_ne this]; exact h5
    | deck => exact q
    | raw v => exact q
/-- an object of one's own becomes known -/
theorem State.know (s : State K Z G0 H0 G H σ ds) {p : Addr} {o : HO} (hh : H p = some o) (hg : G p = none) (hd : ¬ inDeck Z p) (h0 : H0 p = none ∨ Z.given = some p) (no : NoOwn σ ds p) : State K Z G0 H0 (upd G p o) H σ ds := by
  refine ⟨s.ex.put hh, s.exg.trans (Ex.new hg), fun q h => ?_, s.exm, ?_, s.len, s.giv, fun i sd h => ?_, s.dist⟩
  · by_cases e : q = p
    · right; rw [e]; exact h0
    · rw [upd_ne e] at h; exact s.nw q h
  · have hk := s.deck
    unfold DeckIn at *
    unfold inDeck at hd
    split
    · trivial
    · rename_i dk c hq
      rw [hq] at hk hd
      obtain ⟨d1, d2, d3, cells, mixed, draws, b1, b2, b3, b4, k1, k2⟩ := hk
      have n1 : dk ≠ p := fun e => hd (.inl e.symm)
      have n2 : c ≠ p := fun e => hd (.inr e.symm)
      exact ⟨by rw [upd_ne n1]; exact d1, by rw [upd_ne n2]; exact d2, d3, cells, mixed, draws, b1, b2, b3, b4, k1, k2⟩
  · have q := s.slots i sd h
    cases sd with
    | un => trivial
    | dat d => obtain ⟨v, e1, r⟩ := q; exact ⟨v, e1, r.mono (Ex.new hg)⟩
    | own l =>
      obtain ⟨r, xs, e1, h1, h2, h3, h4, h5, h6⟩ := q
      have : r ≠ p := by
        intro e; subst e
        refine no i l h ?_
        cases z : σ[i]? with
        | none => rw [z] at e1; cases e1
        | some o => rw [z] at e1; simp at e1; rw [e1]
      exact ⟨r, xs, e1, h1, by rw [upd_ne this]; exact h2, h3, h4, h5, h6.mono (Ex.new hg)⟩
    | deck => exact q
    | raw v => exact q
end
end Dl


set_option Elab.async false
set_option linter.all false
namespace Dl
open PySem L2

/-- what a def's body, or a comprehension's block in it, stands in -/
structure Inf where
  prog : Program
  w : World
  K : Frag
  mg : Str → Option Value
  base : Heap
  N : List Str
  sc : Scope
  k : Nat
  fnc : Str → Bool := fun _ => true
  gd : Bool := false
structure Fits (I : Inf) (X : Cx) : Prop where
  prog : X.prog = I.prog
  w : X.w = I.w
  K : X.K = I.K
  mg : X.mg = I.mg
  base : X.base = I.base
  N : X.N = I.N
  sc : X.env.scope = I.sc
  calm : X.calm = true
  room : Room I.k X.A
  xe : X.xe = fun _ _ => False
  fn : ∀ x, I.fnc x = true → X.fn x = true
  nd : I.N.Nodup
  kind : I.sc.kind = .function
  gd : I.gd = true → X.A.guards = some []

/-- a def's zone, and what was known and there at its beginning -/
structure Ct where
  Z : Zone
  G0 : Hp
  H0 : Hp

abbrev S (I : Inf) (c : Ct) (G H : Hp) (σ : St) (ds : List SD) : Prop := State I.K c.Z c.G0 c.H0 G H σ ds

/-! ### the readings by what they mean -/
def wE (X : Cx) (e : Expr) : TE := fun σ H Q => ∀ (pins : List (Addr × Obj)) (s : Shared), Inv X pins σ H s → wpAny (model X.prog X.w) X.A (eval e X.env) (EP X pins σ Q) X.xe s
def wT (X : Cx) (e : Expr) : TT := fun σ H Q => ∀ (pins : List (Addr × Obj)) (s : Shared), Inv X pins σ H s → wpAny (model X.prog X.w) X.A (isTrue e X.env (eval e X.env)) (TP X pins σ Q) X.xe s
def wA (X : Cx) (es : List Expr) : TA := fun σ H Q => ∀ (pos : Pos) (pins : List (Addr × Obj)) (s : Shared), Inv X pins σ H s → wpAny (model X.prog X.w) X.A (spliced (backTo pos (starEach es X.env))) (AP X pins σ Q) X.xe s
def wS (X : Cx) (st : Stmt) : TS := fun E σ H => ∀ (pins : List (Addr × Obj)) (s : Shared), Inv X pins σ H s → wpAny (model X.prog X.w) X.A (exec st X.env) (SP X pins E) X.xe s
def wSs (X : Cx) (st : List Stmt) : TS := fun E σ H => ∀ (pins : List (Addr × Obj)) (s : Shared), Inv X pins σ H s → wpAny (model X.prog X.w) X.A (execs st X.env) (SP X pins E) X.xe s
section
variable {X : Cx} {e : Expr} {es : List Expr} {st : Stmt} {sts : List Stmt}
theorem pe_w : PE X e (wE X e) := ⟨fun pins s _ _ _ I h => h pins s I⟩
theorem pt_w : PT X e (wT X e) := ⟨fun pins s _ _ _ I h => h pins s I⟩
theorem pa_w : PA X es (wA X es) := ⟨fun pos pins s _ _ _ I h => h pos pins s I⟩
theorem ps_w : PS X st (wS X st) := ⟨fun pins s _ _ _ I h => h pins s I⟩
theorem pss_w : PSs X sts (wSs X sts) := ⟨fun pins s _ _ _ I h => h pins s I⟩
theorem w_pe {t : TE} (h : PE X e t) {σ H Q} (q : t σ H Q) : wE X e σ H Q := fun pins s I => h.run pins s σ H Q I q
theorem w_pt {t : TT} (h : PT X e t) {σ H Q} (q : t σ H Q) : wT X e σ H Q := fun pins s I => h.run pins s σ H Q I q
theorem w_pa {t : TA} (h : PA X es t) {σ H Q} (q : t σ H Q) : wA X es σ H Q := fun pos pins s I => h.run pos pins s σ H Q I q
theorem w_ps {t : TS} (h : PS X st t) {E σ H} (q : t E σ H) : wS X st E σ H := fun pins s I => h.run pins s σ H E I q
theorem w_pss {t : TS} (h : PSs X sts t) {E σ H} (q : t E σ H) : wSs X sts E σ H := fun pins s I => h.run pins s σ H E I q
end

/-! ### expressions that come to data -/
/-- what may follow a value -/
def Kv (I : Inf) (c : Ct) (G H : Hp) (σ : St) (ds : List SD) (P : D → Prop) (Q : VK) : Prop :=
  ∀ v G' H' d, Gr c.Z G H G' H' → S I c G' H' σ ds → Rp I.K G' d v → P d → Q v H'
def Ev (I : Inf) (c : Ct) (t : TE) (ds : List SD) (P : D → Prop) : Prop :=
  ∀ σ G H, S I c G H σ ds → ∀ Q : VK, Kv I c G H σ ds P Q → t σ H Q
def EvE (I : Inf) (c : Ct) (e : Expr) (ds : List SD) (P : D → Prop) : Prop := ∀ X, Fits I X → Ev I c (wE X e) ds P
def EvT (I : Inf) (c : Ct) (e : Expr) (ds : List SD) (P : Bool → Prop) : Prop :=
  ∀ X, Fits I X → ∀ σ G H, S I c G H σ ds → ∀ Q : Bool → Hp → Prop, (∀ b G' H', Gr c.Z G H G' H' → S I c G' H' σ ds → P b → Q b H') → wT X e σ H Q
def EvA (I : Inf) (c : Ct) (es : List Expr) (ds : List SD) (P : List D → Prop) : Prop :=
  ∀ X, Fits I X → ∀ σ G H, S I c G H σ ds → ∀ Q : List V → Hp → Prop, (∀ vs G' H' l, Gr c.Z G H G' H' → S I c G' H' σ ds → RpA I.K G' l vs → P l → Q vs H') → wA X es σ H Q
/-- an operation on two values that stand for data -/
def Rv (I : Inf) (c : Ct) (ds : List SD) (r : R2) (d e : D) (P : D → Prop) : Prop :=
  ∀ σ G H x y, S I c G H σ ds → Rp I.K G d x → Rp I.K G e y → ∀ Q : VK, Kv I c G H σ ds P Q → r x y H Q

section
variable {I : Inf} {c : Ct} {ds : List SD} {e a b : Expr} {es : List Expr} {P P' PA PB : D → Prop} {pos : Pos} {d : D}

theorem Kv.mono {G H G1 H1 : Hp} {σ : St} {Q : VK} (h : Kv I c G H σ ds P Q) (x : Gr c.Z G H G1 H1) : Kv I c G1 H1 σ ds P Q := fun v G' H' d e s r p => h v G' H' d (x.trans e) s r p
theorem Kv.now {G H : Hp} {σ : St} {Q : VK} {v : V} (h : Kv I c G H σ ds P Q) (s : S I c G H σ ds) (r : Rp I.K G d v) (p : P d) : Q v H := h v G H d Gr.refl s r p

theorem EvE.imp (h : EvE I c e ds P) (hp : ∀ d, P d → P' d) : EvE I c e ds P' := fun X F σ G H s Q k =>
  h X F σ G H s Q fun v G' H' d x s' r p => k v G' H' d x s' r (hp d p)
theorem EvT.imp {P P' : Bool → Prop} (h : EvT I c e ds P) (hp : ∀ d, P d → P' d) : EvT I c e ds P' := fun X F σ G H s Q k =>
  h X F σ G H s Q fun b G' H' x s' p => k b G' H' x s' (hp b p)
theorem EvE.is {d d' : D} (h : EvE I c e ds (· = d)) (hp : d = d') : EvE I c e ds (· = d') := by rw [← hp]; exact h
theorem EvT.is {d d' : Bool} (h : EvT I c e ds (· = d)) (hp : d = d') : EvT I c e ds (· = d') := by rw [← hp]; exact h

theorem ev_var (i : Nat) {x : Str} (hN : I.N[i]? = some x) (hv : Vis I.sc x) (hd : ds[i]? = some (.dat d)) (h1 : (x == ("__debug__" : Str)) = false := by decide) (h2 : (x == ("__classdict__" : Str)) = false := by decide) :
    EvE I c (.Name x pos) ds (· = d) := fun X F σ G H s Q k => by
  refine w_pe (pe_var (i := i) (by rw [F.N]; exact hN) (by rw [F.sc]; exact hv) h1 h2) ?_
  obtain ⟨v, e1, r⟩ := s.slots i _ hd
  refine ⟨v, ?_, k.now s r rfl⟩
  cases h : σ[i]? with
  | none => rw [h] at e1; cases e1
  | some o => rw [h] at e1; simpa using e1
theorem ev_int {i : Int} {j} : EvE I c (.Constant (.int i) j pos) ds (· = .int i) := fun X F σ G H s Q k => w_pe pe_int (k.now s .int rfl)
theorem ev_bl {i : Bool} {j} : EvE I c (.Constant (.bool i) j pos) ds (· = .bool i) := fun X F σ G H s Q k => w_pe pe_bl (k.now s .bl rfl)
theorem ev_str {i : Str} {j} : EvE I c (.Constant (.str i) j pos) ds (· = .str i) := fun X F σ G H s Q k => w_pe pe_str (k.now s .str rfl)
theorem ev_non {j} : EvE I c (.Constant .none j pos) ds (· = .none) := fun X F σ G H s Q k => w_pe pe_non (k.now s .non rfl)
/-- a constant of the module -/
theorem ev_globI {x : Str} {i : Int} {t : Tok} (hg : I.sc.names.lookup x = some .globalImplicit) (hm : I.mg x = some (.int i t)) (hd : (x == ("__debug__" : Str)) = false := by decide) :
    EvE I c (.Name x pos) ds (· = .int i) := fun X F σ G H s Q k => by
  refine w_pe (pe_glob (v := .int i) (by show X.env.scope.names.lookup x = _; rw [F.sc]; exact hg) (by rw [F.mg]; exact hm) ⟨_, rfl⟩ hd) (k.now s .int rfl)

/-! two operands -/
theorem ev_op {op : Operator} {r : R2} (ho : ∀ X, Fits I X → OpR X (binaryOp op) r) (ha : EvE I c a ds PA) (hb : EvE I c b ds PB)
    (h : ∀ d e, PA d → PB e → Rv I c ds r d e P) : EvE I c (.BinOp a op b pos) ds P := fun X F σ G H s Q k => by
  refine w_pe (pe_op (ho X F) pe_w pe_w) ?_
  refine ha X F σ G H s _ fun x G1 H1 d x1 s1 r1 p1 => ?_
  refine hb X F σ G1 H1 s1 _ fun y G2 H2 e x2 s2 r2 p2 => ?_
  exact h d e p1 p2 σ G2 H2 x y s2 (r1.mono x2.g) r2 Q (k.mono (x1.trans x2))
theorem ev_cmp {op : CmpOp} {r : R2} (ho : ∀ X, Fits I X → OpR X (compareOp op) r) (hm : behindInMarks op b = false) (ha : EvE I c a ds PA) (hb : EvE I c b ds PB)
    (h : ∀ d e, PA d → PB e → Rv I c ds r d e P) : EvE I c (.Compare a [op] [b] pos) ds P := fun X F σ G H s Q k => by
  refine w_pe (pe_cmpR (ho X F) pe_w pe_w hm) ?_
  refine ha X F σ G H s _ fun x G1 H1 d x1 s1 r1 p1 => ?_
  refine hb X F σ G1 H1 s1 _ fun y G2 H2 e x2 s2 r2 p2 => ?_
  exact h d e p1 p2 σ G2 H2 x y s2 (r1.mono x2.g) r2 Q (k.mono (x1.trans x2))

/-- an int of which something holds -/
def IsI (p : Int → Prop) : D → Prop := fun d => ∃ i, d = .int i ∧ p i
theorem isI {i : Int} : ∀ d, d = PyData.int i → IsI (· = i) d := fun _ h => ⟨_, h, rfl⟩
theorem isI' {i : Int} : ∀ d, IsI (· = i) d → d = PyData.int i := fun _ ⟨_, h, e⟩ => by rw [h, e]

theorem rv_I0 {g : Int → Int → Int} {i j : Int} (hp : P (.int (g i j))) : Rv I c ds (rI0 fun i j => .int (g i j)) (.int i) (.int j) P := fun σ G H x y s rx ry Q k => by
  rw [rx.int', ry.int']; exact ⟨i, j, rfl, rfl, k.now s .int hp⟩
theorem rv_I {C : Int → Int → Prop} {g : Int → Int → Int} {i j : Int} (hc : C i j) (hp : P (.int (g i j))) : Rv I c ds (rI C fun i j => .int (g i j)) (.int i) (.int j) P := fun σ G H x y s rx ry Q k => by
  rw [rx.int', ry.int']; exact ⟨i, j, rfl, rfl, hc, k.now s .int hp⟩
theorem rv_B0 {g : Int → Int → Bool} {i j : Int} (hp : P (.bool (g i j))) : Rv I c ds (rI0 fun i j => .bl (g i j)) (.int i) (.int j) P := fun σ G H x y s rx ry Q k => by
  rw [rx.int', ry.int']; exact ⟨i, j, rfl, rfl, k.now s .bl hp⟩

section
variable {p q r : Int → Prop} {i j : Int}
theorem ev_addP (ha : EvE I c a ds (IsI p)) (hb : EvE I c b ds (IsI q)) (h : ∀ i j, p i → q j → r (i + j)) : EvE I c (.BinOp a .Add b pos) ds (IsI r) :=
  ev_op (fun _ _ => op_add) ha hb fun d e ⟨i, hi, pi⟩ ⟨j, hj, qj⟩ => by rw [hi, hj]; exact rv_I0 ⟨_, rfl, h i j pi qj⟩
theorem ev_subP (ha : EvE I c a ds (IsI p)) (hb : EvE I c b ds (IsI q)) (h : ∀ i j, p i → q j → r (i - j)) : EvE I c (.BinOp a .Sub b pos) ds (IsI r) :=
  ev_op (fun _ _ => op_sub) ha hb fun d e ⟨i, hi, pi⟩ ⟨j, hj, qj⟩ => by rw [hi, hj]; exact rv_I0 ⟨_, rfl, h i j pi qj⟩
theorem ev_mulP (ha : EvE I c a ds (IsI p)) (hb : EvE I c b ds (IsI q)) (hc : ∀ i j, p i → q j → CMulW i j) (h : ∀ i j, p i → q j → r (i * j)) : EvE I c (.BinOp a .Mult b pos) ds (IsI r) :=
  ev_op (fun _ _ => op_mulW) ha hb fun d e ⟨i, hi, pi⟩ ⟨j, hj, qj⟩ => by rw [hi, hj]; exact rv_I (hc i j pi qj) ⟨_, rfl, h i j pi qj⟩
theorem ev_add (ha : EvE I c a ds (· = .int i)) (hb : EvE I c b ds (· = .int j)) : EvE I c (.BinOp a .Add b pos) ds (· = .int (i + j)) :=
  ev_op (fun _ _ => op_add) ha hb fun d e hi hj => by rw [hi, hj]; exact rv_I0 rfl
theorem ev_sub (ha : EvE I c a ds (· = .int i)) (hb : EvE I c b ds (· = .int j)) : EvE I c (.BinOp a .Sub b pos) ds (· = .int (i - j)) :=
  ev_op (fun _ _ => op_sub) ha hb fun d e hi hj => by rw [hi, hj]; exact rv_I0 rfl
theorem ev_mul (ha : EvE I c a ds (· = .int i)) (hb : EvE I c b ds (· = .int j)) (hc : CMulW i j) : EvE I c (.BinOp a .Mult b pos) ds (· = .int (i * j)) :=
  ev_op (fun _ _ => op_mulW) ha hb fun d e hi hj => by rw [hi, hj]; exact rv_I hc rfl
/-- a floor by a positive divisor -/
theorem ev_div (ha : EvE I c a ds (· = .int i)) (hb : EvE I c b ds (· = .int j)) (hc : CDivW i j) : EvE I c (.BinOp a .FloorDiv b pos) ds (· = .int (i / j)) :=
  ev_op (fun _ _ => op_fdivW) ha hb fun d e hi hj => by rw [hi, hj]; exact rv_I hc rfl
theorem ev_mod (ha : EvE I c a ds (· = .int i)) (hb : EvE I c b ds (· = .int j)) (hc : 0 < j) : EvE I c (.BinOp a .Mod b pos) ds (· = .int (i % j)) :=
  ev_op (fun _ _ => op_mod) ha hb fun d e hi hj => by rw [hi, hj]; exact rv_I hc rfl
theorem ev_lt (ha : EvE I c a ds (· = .int i)) (hb : EvE I c b ds (· = .int j)) : EvE I c (.Compare a [.Lt] [b] pos) ds (· = .bool (decide (i < j))) :=
  ev_cmp (fun _ _ => op_lt) (nobehind _ (by decide) (by decide)) ha hb fun d e hi hj => by rw [hi, hj]; exact rv_B0 rfl
theorem ev_le (ha : EvE I c a ds (· = .int i)) (hb : EvE I c b ds (· = .int j)) : EvE I c (.Compare a [.LtE] [b] pos) ds (· = .bool (decide (i ≤ j))) :=
  ev_cmp (fun _ _ => op_le) (nobehind _ (by decide) (by decide)) ha hb fun d e hi hj => by rw [hi, hj]; exact rv_B0 rfl
theorem ev_gt (ha : EvE I c a ds (· = .int i)) (hb : EvE I c b ds (· = .int j)) : EvE I c (.Compare a [.Gt] [b] pos) ds (· = .bool (decide (j < i))) :=
  ev_cmp (fun _ _ => op_gt) (nobehind _ (by decide) (by decide)) ha hb fun d e hi hj => by rw [hi, hj]; exact rv_B0 rfl
theorem ev_ge (ha : EvE I c a ds (· = .int i)) (hb : EvE I c b ds (· = .int j)) : EvE I c (.Compare a [.GtE] [b] pos) ds (· = .bool (decide (j ≤ i))) :=
  ev_cmp (fun _ _ => op_ge) (nobehind _ (by decide) (by decide)) ha hb fun d e hi hj => by rw [hi, hj]; exact rv_B0 rfl
end
/-- == of data at any depth -/
theorem rv_eq {d e : D} (sd : SeqAt.shaped d = true) (se : SeqAt.shaped e = true) (hp : P (.bool (PyData.eqv d e))) : Rv I c ds (rEqD I.K) d e P := fun σ G H x y s rx ry Q k =>
  ⟨d, e, rx.dp s.ex _, ry.dp s.ex _, sd, se, k.now s .bl hp⟩
theorem rv_ne {d e : D} (sd : SeqAt.shaped d = true) (se : SeqAt.shaped e = true) (hp : P (.bool (!PyData.eqv d e))) : Rv I c ds (rNeD I.K) d e P := fun σ G H x y s rx ry Q k =>
  ⟨d, e, rx.dp s.ex _, ry.dp s.ex _, sd, se, k.now s .bl hp⟩
theorem ev_eq {d e : D} (ha : EvE I c a ds (· = d)) (hb : EvE I c b ds (· = e)) (sd : SeqAt.shaped d = true) (se : SeqAt.shaped e = true) : EvE I c (.Compare a [.Eq] [b] pos) ds (· = .bool (PyData.eqv d e)) :=
  ev_cmp (r := rEqD I.K) (fun X F => by have := op_eqD (X := X) F.room.units; rw [F.K] at this; exact this) (nobehind _ (by decide) (by decide)) ha hb fun d' e' hi hj => by rw [hi, hj]; exact rv_eq sd se rfl
theorem ev_ne {d e : D} (ha : EvE I c a ds (· = d)) (hb : EvE I c b ds (· = e)) (sd : SeqAt.shaped d = true) (se : SeqAt.shaped e = true) : EvE I c (.Compare a [.NotEq] [b] pos) ds (· = .bool (!PyData.eqv d e)) :=
  ev_cmp (r := rNeD I.K) (fun X F => by have := op_neD (X := X) F.room.units; rw [F.K] at this; exact this) (nobehind _ (by decide) (by decide)) ha hb fun d' e' hi hj => by rw [hi, hj]; exact rv_ne sd se rfl

/-! one operand -/
theorem ev_neg {i : Int} (ha : EvE I c a ds (· = .int i)) : EvE I c (.UnaryOp .USub a pos) ds (· = .int (-i)) := fun X F σ G H s Q k => by
  refine w_pe (pe_un un_neg pe_w) (ha X F σ G H s _ fun x G1 H1 d x1 s1 r1 p1 => ?_)
  subst p1; rw [r1.int']
  exact ⟨i, rfl, (k.mono x1).now s1 .int rfl⟩

/-! tests -/
theorem et_val {b : Bool} (h : EvE I c e ds (· = .bool b)) (he : ∀ X, Fits I X → ∀ whole, isTrue e X.env whole = (do let v ← whole; standAt e.pos; holding [v] (truthy v)) := by intros; rfl) : EvT I c e ds (· = b) :=
  fun X F σ G H s Q k => w_pt (pt_val pe_w (he X F)) (h X F σ G H s _ fun x G1 H1 d x1 s1 r1 p1 => by
    subst p1; rw [r1.bl']; exact ⟨b, rfl, k b G1 H1 x1 s1 rfl⟩)
theorem et_cmp {op : CmpOp} {r : R2} {b' : Bool} (ho : ∀ X, Fits I X → OpR X (compareOp op) r) (hm : behindInMarks op b = false) (ha : EvE I c a ds PA) (hb : EvE I c b ds PB)
    (h : ∀ d e, PA d → PB e → Rv I c ds r d e (· = .bool b')) : EvT I c (.Compare a [op] [b] pos) ds (· = b') := fun X F σ G H s Q k => by
  refine w_pt (pt_cmpR (ho X F) pe_w pe_w hm) ?_
  refine ha X F σ G H s _ fun x G1 H1 d x1 s1 r1 p1 => ?_
  refine hb X F σ G1 H1 s1 _ fun y G2 H2 e x2 s2 r2 p2 => ?_
  refine h d e p1 p2 σ G2 H2 x y s2 (r1.mono x2.g) r2 _ fun v G3 H3 t x3 s3 r3 p3 => ?_
  subst p3; rw [r3.bl']
  exact ⟨b', rfl, k b' G3 H3 ((x1.trans x2).trans x3) s3 rfl⟩
section
variable {i j : Int}
theorem et_lt (ha : EvE I c a ds (· = .int i)) (hb : EvE I c b ds (· = .int j)) : EvT I c (.Compare a [.Lt] [b] pos) ds (· = decide (i < j)) :=
  et_cmp (fun _ _ => op_lt) (nobehind _ (by decide) (by decide)) ha hb fun d e hi hj => by rw [hi, hj]; exact rv_B0 rfl
theorem et_le (ha : EvE I c a ds (· = .int i)) (hb : EvE I c b ds (· = .int j)) : EvT I c (.Compare a [.LtE] [b] pos) ds (· = decide (i ≤ j)) :=
  et_cmp (fun _ _ => op_le) (nobehind _ (by decide) (by decide)) ha hb fun d e hi hj => by rw [hi, hj]; exact rv_B0 rfl
theorem et_gt (ha : EvE I c a ds (· = .int i)) (hb : EvE I c b ds (· = .int j)) : EvT I c (.Compare a [.Gt] [b] pos) ds (· = decide (j < i)) :=
  et_cmp (fun _ _ => op_gt) (nobehind _ (by decide) (by decide)) ha hb fun d e hi hj => by rw [hi, hj]; exact rv_B0 rfl
theorem et_ge (ha : EvE I c a ds (· = .int i)) (hb : EvE I c b ds (· = .int j)) : EvT I c (.Compare a [.GtE] [b] pos) ds (· = decide (j ≤ i)) :=
  et_cmp (fun _ _ => op_ge) (nobehind _ (by decide) (by decide)) ha hb fun d e hi hj => by rw [hi, hj]; exact rv_B0 rfl
theorem et_eqI (ha : EvE I c a ds (· = .int i)) (hb : EvE I c b ds (· = .int j)) : EvT I c (.Compare a [.Eq] [b] pos) ds (· = decide (i = j)) :=
  et_cmp (fun _ _ => op_eq) (nobehind _ (by decide) (by decide)) ha hb fun d e hi hj => by
    rw [hi, hj]; intro σ G H x y s rx ry Q k; rw [rx.int', ry.int']
    refine ⟨rfl, k.now s .bl ?_⟩
    congr 1; exact decide_eq_decide.mpr ⟨fun h => by injection h, fun h => by rw [h]⟩
theorem et_neI (ha : EvE I c a ds (· = .int i)) (hb : EvE I c b ds (· = .int j)) : EvT I c (.Compare a [.NotEq] [b] pos) ds (· = !decide (i = j)) :=
  et_cmp (fun _ _ => op_ne) (nobehind _ (by decide) (by decide)) ha hb fun d e hi hj => by
    rw [hi, hj]; intro σ G H x y s rx ry Q k; rw [rx.int', ry.int']
    refine ⟨rfl, k.now s .bl ?_⟩
    congr 2; exact decide_eq_decide.mpr ⟨fun h => by injection h, fun h => by rw [h]⟩
end
theorem et_eq {d e : D} (ha : EvE I c a ds (· = d)) (hb : EvE I c b ds (· = e)) (sd : SeqAt.shaped d = true) (se : SeqAt.shaped e = true) : EvT I c (.Compare a [.Eq] [b] pos) ds (· = PyData.eqv d e) :=
  et_cmp (r := rEqD I.K) (fun X F => by have := op_eqD (X := X) F.room.units; rw [F.K] at this; exact this) (nobehind _ (by decide) (by decide)) ha hb fun d' e' hi hj => by rw [hi, hj]; exact rv_eq sd se rfl
theorem et_ne {d e : D} (ha : EvE I c a ds (· = d)) (hb : EvE I c b ds (· = e)) (sd : SeqAt.shaped d = true) (se : SeqAt.shaped e = true) : EvT I c (.Compare a [.NotEq] [b] pos) ds (· = !PyData.eqv d e) :=
  et_cmp (r := rNeD I.K) (fun X F => by have := op_neD (X := X) F.room.units; rw [F.K] at this; exact this) (nobehind _ (by decide) (by decide)) ha hb fun d' e' hi hj => by rw [hi, hj]; exact rv_ne sd se rfl
theorem et_not {b : Bool} (h : EvT I c e ds (· = b)) : EvT I c (.UnaryOp .Not e pos) ds (· = !b) := fun X F σ G H s Q k =>
  w_pt (pt_not pt_w) (h X F σ G H s _ fun b' G1 H1 x1 s1 p1 => by subst p1; exact k _ G1 H1 x1 s1 rfl)
/-- and, or as tests: two or more parts -/
theorem et_and1 {b : Bool} (h : EvT I c e ds (· = b)) : EvT I c (.BoolOp .And [e] pos) ds (· = b) := fun X F σ G H s Q k => w_pt (PW.pt (pw_and1 pt_w)) (h X F σ G H s Q k)
theorem et_or1 {b : Bool} (h : EvT I c e ds (· = b)) : EvT I c (.BoolOp .Or [e] pos) ds (· = b) := fun X F σ G H s Q k => w_pt (PW.pt (pw_or1 pt_w)) (h X F σ G H s Q k)
end
end Dl


set_option Elab.async false
set_option linter.all false
namespace Dl
open PySem L2
section
variable {I : Inf} {c : Ct} {ds : List SD} {e a b : Expr} {es rest : List Expr} {P P' PA PB : D → Prop} {pos : Pos} {d : D}

/-! and, or: as tests, as values -/
/-- a test whatever its whole is -/
def wW (X : Cx) (e : Expr) : TT := fun σ H Q => ∀ (whole : Sem Value) (pins : List (Addr × Obj)) (s : Shared), Inv X pins σ H s → wpAny (model X.prog X.w) X.A (isTrue e X.env whole) (TP X pins σ Q) X.xe s
theorem pw_w {X : Cx} : PW X e (wW X e) := ⟨fun wh pins s _ _ _ I h => h wh pins s I⟩
theorem w_pw {X : Cx} {t : TT} (h : PW X e t) {σ H Q} (q : t σ H Q) : wW X e σ H Q := fun wh pins s I => h.run wh pins s σ H Q I q
def EvW (I : Inf) (c : Ct) (e : Expr) (ds : List SD) (P : Bool → Prop) : Prop :=
  ∀ X, Fits I X → ∀ σ G H, S I c G H σ ds → ∀ Q : Bool → Hp → Prop, (∀ b G' H', Gr c.Z G H G' H' → S I c G' H' σ ds → P b → Q b H') → wW X e σ H Q
theorem et_of {P : Bool → Prop} (h : EvW I c e ds P) : EvT I c e ds P := fun X F σ G H s Q k => w_pt (PW.pt pw_w) (h X F σ G H s Q k)
theorem ew_and1 {P : Bool → Prop} (h : EvT I c e ds P) : EvW I c (.BoolOp .And [e] pos) ds P := fun X F σ G H s Q k => w_pw (pw_and1 pt_w) (h X F σ G H s Q k)
theorem ew_or1 {P : Bool → Prop} (h : EvT I c e ds P) : EvW I c (.BoolOp .Or [e] pos) ds P := fun X F σ G H s Q k => w_pw (pw_or1 pt_w) (h X F σ G H s Q k)
theorem ew_and {x y : Bool} (h1 : EvT I c e ds (· = x)) (h2 : x = true → EvW I c (.BoolOp .And (b :: rest) pos) ds (· = y)) : EvW I c (.BoolOp .And (e :: b :: rest) pos) ds (· = (x && y)) :=
  fun X F σ G H s Q k => w_pw (pw_and pt_w pw_w) (h1 X F σ G H s _ fun b' G1 H1 x1 s1 p1 => by
    subst p1
    cases b' with
    | true => exact iteT (h2 rfl X F σ G1 H1 s1 _ fun b2 G2 H2 x2 s2 p2 => k b2 G2 H2 (x1.trans x2) s2 (by rw [p2]; rfl))
    | false => exact iteF (k false G1 H1 x1 s1 rfl))
theorem ew_or {x y : Bool} (h1 : EvT I c e ds (· = x)) (h2 : x = false → EvW I c (.BoolOp .Or (b :: rest) pos) ds (· = y)) : EvW I c (.BoolOp .Or (e :: b :: rest) pos) ds (· = (x || y)) :=
  fun X F σ G H s Q k => w_pw (pw_or pt_w pw_w) (h1 X F σ G H s _ fun b' G1 H1 x1 s1 p1 => by
    subst p1
    cases b' with
    | false => exact iteF (h2 rfl X F σ G1 H1 s1 _ fun b2 G2 H2 x2 s2 p2 => k b2 G2 H2 (x1.trans x2) s2 (by rw [p2]; rfl))
    | true => exact iteT (k true G1 H1 x1 s1 rfl))
theorem ev_one {op} (h : EvE I c a ds P) : EvE I c (.BoolOp op [a] pos) ds P := fun X F σ G H s Q k => w_pe (pe_one pe_w) (h X F σ G H s Q k)
theorem ev_and {x y : Bool} (h1 : EvE I c e ds (· = .bool x)) (h2 : x = true → EvE I c (.BoolOp .And (b :: rest) pos) ds (· = .bool y)) : EvE I c (.BoolOp .And (e :: b :: rest) pos) ds (· = .bool (x && y)) :=
  fun X F σ G H s Q k => w_pe (pe_and pe_w pe_w) (h1 X F σ G H s _ fun v G1 H1 d1 x1 s1 r1 p1 => by
    subst p1; refine ⟨x, r1.bl', ?_⟩
    cases x with
    | true => exact iteT (h2 rfl X F σ G1 H1 s1 _ fun v2 G2 H2 d2 x2 s2 r2 p2 => k v2 G2 H2 d2 (x1.trans x2) s2 r2 (by rw [p2]; rfl))
    | false => exact iteF ((k.mono x1).now s1 .bl rfl))
theorem ev_or {x y : Bool} (h1 : EvE I c e ds (· = .bool x)) (h2 : x = false → EvE I c (.BoolOp .Or (b :: rest) pos) ds (· = .bool y)) : EvE I c (.BoolOp .Or (e :: b :: rest) pos) ds (· = .bool (x || y)) :=
  fun X F σ G H s Q k => w_pe (pe_or pe_w pe_w) (h1 X F σ G H s _ fun v G1 H1 d1 x1 s1 r1 p1 => by
    subst p1; refine ⟨x, r1.bl', ?_⟩
    cases x with
    | false => exact iteF (h2 rfl X F σ G1 H1 s1 _ fun v2 G2 H2 d2 x2 s2 r2 p2 => k v2 G2 H2 d2 (x1.trans x2) s2 r2 (by rw [p2]; rfl))
    | true => exact iteT ((k.mono x1).now s1 .bl rfl))
theorem ev_not {x : Bool} (h1 : EvE I c e ds (· = .bool x)) : EvE I c (.UnaryOp .Not e pos) ds (· = .bool (!x)) :=
  fun X F σ G H s Q k => w_pe (pe_not pe_w) (h1 X F σ G H s _ fun v G1 H1 d1 x1 s1 r1 p1 => by
    subst p1; exact ⟨x, r1.bl', (k.mono x1).now s1 .bl rfl⟩)
/-- a if t else b -/
theorem ev_if {t : Expr} {PT : Bool → Prop} (h : EvT I c t ds PT) (h1 : PT true → EvE I c a ds P) (h2 : PT false → EvE I c b ds P) : EvE I c (.IfExp t a b pos) ds P :=
  fun X F σ G H s Q k => w_pe (pe_ifExp pt_w pe_w pe_w) (h X F σ G H s _ fun b' G1 H1 x1 s1 p1 => by
    cases b' with
    | true => exact iteT (h1 p1 X F σ G1 H1 s1 Q (k.mono x1))
    | false => exact iteF (h2 p1 X F σ G1 H1 s1 Q (k.mono x1)))
/-- a < b < c and its like, of ints -/
theorem ev_chainI {op op' : CmpOp} {g g' : Int → Int → Bool} {i j m : Int} {cc : Expr} (ho : ∀ X, OpR X (compareOp op) (rI0 fun i j => .bl (g i j))) (ho' : ∀ X, OpR X (compareOp op') (rI0 fun i j => .bl (g' i j)))
    (hm : lastMarks [op, op'] [b, cc] = false) (ha : EvE I c a ds (· = .int i)) (hb : EvE I c b ds (· = .int j)) (hc : EvE I c cc ds (· = .int m)) :
    EvE I c (.Compare a [op, op'] [b, cc] pos) ds (· = .bool (g i j && g' j m)) := fun X F σ G H s Q k => by
  refine w_pe (pe_chain (ho X) (ho' X) pe_w pe_w pe_w hm) ?_
  refine ha X F σ G H s _ fun x G1 H1 d x1 s1 r1 p1 => hb X F σ G1 H1 s1 _ fun y G2 H2 e x2 s2 r2 p2 => ?_
  subst p1; subst p2; rw [r1.int', r2.int']
  refine ⟨i, j, rfl, rfl, g i j, rfl, ?_⟩
  cases h : g i j with
  | true =>
    refine iteT (hc X F σ G2 H2 s2 _ fun z G3 H3 t x3 s3 r3 p3 => ?_)
    subst p3; rw [r3.int']
    exact ⟨j, m, rfl, rfl, (k.mono ((x1.trans x2).trans x3)).now s3 .bl (by rw [h]; rfl)⟩
  | false => exact iteF ((k.mono (x1.trans x2)).now s2 .bl (by rw [h]; rfl))
theorem et_chainI {op op' : CmpOp} {g g' : Int → Int → Bool} {i j m : Int} {cc : Expr} (ho : ∀ X, OpR X (compareOp op) (rI0 fun i j => .bl (g i j))) (ho' : ∀ X, OpR X (compareOp op') (rI0 fun i j => .bl (g' i j)))
    (hm : lastMarks [op, op'] [b, cc] = false) (ha : EvE I c a ds (· = .int i)) (hb : EvE I c b ds (· = .int j)) (hc : EvE I c cc ds (· = .int m)) :
    EvT I c (.Compare a [op, op'] [b, cc] pos) ds (· = (g i j && g' j m)) := fun X F σ G H s Q k => by
  refine w_pt (pt_chain (ho X) (ho' X) pe_w pe_w pe_w hm) ?_
  refine ha X F σ G H s _ fun x G1 H1 d x1 s1 r1 p1 => hb X F σ G1 H1 s1 _ fun y G2 H2 e x2 s2 r2 p2 => ?_
  subst p1; subst p2; rw [r1.int', r2.int']
  refine ⟨i, j, rfl, rfl, g i j, rfl, ?_⟩
  cases h : g i j with
  | true =>
    refine iteT (hc X F σ G2 H2 s2 _ fun z G3 H3 t x3 s3 r3 p3 => ?_)
    subst p3; rw [r3.int']
    exact ⟨j, m, rfl, rfl, g' j m, rfl, k _ _ _ ((x1.trans x2).trans x3) s3 (by rw [h]; rfl)⟩
  | false => exact iteF ⟨false, rfl, k _ _ _ (x1.trans x2) s2 (by rw [h]; rfl)⟩

/-! argument lists, displays -/
theorem ea_nil : EvA I c [] ds (· = []) := fun X F σ G H s Q k => w_pa pa_nil (k [] G H [] Gr.refl s .nil rfl)
theorem ea_consP {R T : List D → Prop} (h : EvE I c e ds P) (hr : EvA I c es ds R) (hp : ∀ d l, P d → R l → T (d :: l))
    (hs : ∀ X, Fits I X → starEach (e :: es) X.env = (false, eval e X.env) :: starEach es X.env := by intros; rfl) : EvA I c (e :: es) ds T := fun X F σ G H s Q k =>
  w_pa (pa_cons pe_w pa_w (hs X F)) (h X F σ G H s _ fun v G1 H1 d x1 s1 r1 p1 => hr X F σ G1 H1 s1 _ fun vs G2 H2 l x2 s2 r2 p2 =>
    k (v :: vs) G2 H2 (d :: l) (x1.trans x2) s2 (.cons (r1.mono x2.g) r2) (hp d l p1 p2))
theorem ea_cons {l : List D} (h : EvE I c e ds (· = d)) (hr : EvA I c es ds (· = l))
    (hs : ∀ X, Fits I X → starEach (e :: es) X.env = (false, eval e X.env) :: starEach es X.env := by intros; rfl) : EvA I c (e :: es) ds (· = d :: l) :=
  ea_consP h hr (fun d' l' h1 h2 => by rw [h1, h2]) hs
theorem ev_tupP {R : List D → Prop} {x1} (h : EvA I c es ds R) (hl : ∀ l, R l → l.length ≤ Lm) (hp : ∀ l, R l → P (.tuple l)) : EvE I c (.Tuple es x1 pos) ds P := fun X F σ G H s Q k =>
  w_pe (pe_tup pa_w) (h X F σ G H s _ fun vs G1 H1 l x1 s1 r1 p1 => ⟨by rw [r1.length]; exact Lm_le (hl l p1), fun p np => by
    obtain ⟨s2, x2⟩ := s1.laid (o := .tup vs) np
    exact k _ _ _ _ (x1.trans x2) s2 (.tup (SqT.of upd_same) (hl l p1) (r1.mono x2.g)) (hp l p1)⟩)
theorem ev_tup {l : List D} {x1} (h : EvA I c es ds (· = l)) (hl : l.length ≤ Lm := by decide) : EvE I c (.Tuple es x1 pos) ds (· = .tuple l) :=
  ev_tupP h (fun l' e => by rw [e]; exact hl) (fun l' e => by rw [e])
theorem ev_lstP {R : List D → Prop} (h : EvA I c es ds R) (hl : ∀ l, R l → l.length ≤ Lm) (hp : ∀ l, R l → P (.list l)) : EvE I c (.List es pos) ds P := fun X F σ G H s Q k =>
  w_pe (pe_lst pa_w) (h X F σ G H s _ fun vs G1 H1 l x1 s1 r1 p1 => ⟨by rw [r1.length]; exact Lm_le (hl l p1), fun p np => by
    obtain ⟨s2, x2⟩ := s1.laid (o := .lst vs) np
    exact k _ _ _ _ (x1.trans x2) s2 (.lst upd_same (hl l p1) (r1.mono x2.g)) (hp l p1)⟩)
theorem ev_lst {l : List D} (h : EvA I c es ds (· = l)) (hl : l.length ≤ Lm := by decide) : EvE I c (.List es pos) ds (· = .list l) :=
  ev_lstP h (fun l' e => by rw [e]; exact hl) (fun l' e => by rw [e])

/-! items, slices -/
theorem RpA.atI {K : Frag} {G : Hp} {l : List D} {vs : List V} (r : RpA K G l vs) {i : Int} {d : D} (h : atI l i = some d) : ∃ v, L2.atI vs i = some v ∧ Rp K G d v := by
  unfold L2.atI at *
  rw [r.length]
  cases e : ixN l.length i with
  | none => rw [e] at h; cases h
  | some j =>
    rw [e] at h
    exact r.get h
theorem rv_ix {K : Frag} {l : List D} {i : Int} (hi : I.K = K) (ha : atI l i = some d) (hp : P d) (w : D) (hw : w = .list l ∨ w = .tuple l) : Rv I c ds (rIx K) w (.int i) P := fun σ G H x y s rx ry Q k => by
  subst hi
  rw [ry.int']
  rcases hw with rfl | rfl
  · obtain ⟨a, xs, rfl, h1, _, r⟩ := rx.lst'
    obtain ⟨v, h2, h3⟩ := r.atI ha
    exact .inl ⟨a, xs, i, v, rfl, rfl, SqL.of (s.ex _ _ h1), h2, k.now s h3 hp⟩
  · obtain ⟨a, xs, rfl, h1, _, r⟩ := rx.tup'
    obtain ⟨v, h2, h3⟩ := r.atI ha
    exact .inr (.inl ⟨a, xs, i, v, rfl, rfl, ex_t s.ex h1, h2, k.now s h3 hp⟩)
theorem ev_ixP (ha : EvE I c a ds PA) (hb : EvE I c b ds PB) (h : ∀ x y, PA x → PB y → ∃ l i d, y = .int i ∧ (x = .list l ∨ x = .tuple l) ∧ atI l i = some d ∧ P d)
    (hs : PlainIx b := by exact fun _ _ => rfl) : EvE I c (.Subscript a b pos) ds P := fun X F σ G H s Q k => by
  refine w_pe (pe_ix (r := rIx X.K) ix_seq pe_w pe_w hs) ?_
  refine ha X F σ G H s _ fun x G1 H1 d x1 s1 r1 p1 => hb X F σ G1 H1 s1 _ fun y G2 H2 e x2 s2 r2 p2 => ?_
  obtain ⟨l, i, d', rfl, hx, hat, hp⟩ := h d e p1 p2
  exact rv_ix F.K.symm hat hp d hx σ G2 H2 x y s2 (r1.mono x2.g) r2 Q (k.mono (x1.trans x2))
theorem ev_ixL {l : List D} {i : Int} (ha : EvE I c a ds (· = .list l)) (hb : EvE I c b ds (· = .int i)) (h : atI l i = some d) (hs : PlainIx b := by exact fun _ _ => rfl) : EvE I c (.Subscript a b pos) ds (· = d) :=
  ev_ixP ha hb (fun x y hx hy => ⟨l, i, d, hy, .inl hx, h, rfl⟩) hs
theorem ev_ixT {l : List D} {i : Int} (ha : EvE I c a ds (· = .tuple l)) (hb : EvE I c b ds (· = .int i)) (h : atI l i = some d) (hs : PlainIx b := by exact fun _ _ => rfl) : EvE I c (.Subscript a b pos) ds (· = d) :=
  ev_ixP ha hb (fun x y hx hy => ⟨l, i, d, hy, .inr hx, h, rfl⟩) hs

def EvO (I : Inf) (c : Ct) (e : Option Expr) (ds : List SD) (P : Option Int → Prop) : Prop :=
  ∀ X, Fits I X → ∃ t, PO X e t ∧ ∀ σ G H, S I c G H σ ds → ∀ Q : Option Int → Hp → Prop, (∀ o G' H', Gr c.Z G H G' H' → S I c G' H' σ ds → P o → Q o H') → t σ H Q
theorem eo_none : EvO I c none ds (· = none) := fun X F => ⟨_, po_none, fun σ G H s Q k => k none G H Gr.refl s rfl⟩
theorem eo_someP {p : Int → Prop} (h : EvE I c e ds (IsI p)) : EvO I c (some e) ds (fun o => ∃ i, o = some i ∧ p i) := fun X F => ⟨_, po_some pe_w, fun σ G H s Q k => h X F σ G H s _ fun v G1 H1 d x1 s1 r1 p1 => by
  obtain ⟨i, rfl, pi⟩ := p1
  exact ⟨i, r1.int', k (some i) G1 H1 x1 s1 ⟨i, rfl, pi⟩⟩⟩
theorem eo_some {i : Int} (h : EvE I c e ds (· = .int i)) : EvO I c (some e) ds (· = some i) := fun X F => ⟨_, po_some pe_w, fun σ G H s Q k => h X F σ G H s _ fun v G1 H1 d x1 s1 r1 p1 => by
  subst p1
  exact ⟨i, r1.int', k (some i) G1 H1 x1 s1 rfl⟩⟩
/-- the part of a list that a slice takes -/
def cutD {α : Type} (l : List α) (lo hi : Option Int) : List α := (l.drop (HT.sIx l.length 0 lo)).take (HT.sIx l.length l.length hi - HT.sIx l.length 0 lo)
theorem cutD_length {α : Type} (l : List α) (lo hi : Option Int) : (cutD l lo hi).length ≤ l.length := by
  unfold cutD; rw [List.length_take, List.length_drop]; omega
theorem RpA.cut {K : Frag} {G : Hp} {l : List D} {vs : List V} (r : RpA K G l vs) (lo hi : Option Int) : RpA K G (cutD l lo hi) (cutV vs lo hi) := by
  unfold cutD cutV; rw [r.length]; exact (r.drop _).take _
theorem ev_slTP {lo hi : Option Expr} {p2 : Pos} {PL PH : Option Int → Prop} (ha : EvE I c a ds PA) (h1 : EvO I c lo ds PL) (h2 : EvO I c hi ds PH)
    (h : ∀ x o u, PA x → PL o → PH u → ∃ l, x = .tuple l ∧ P (.tuple (cutD l o u))) : EvE I c (.Subscript a (.Slice lo hi none p2) pos) ds P := fun X F σ G H s Q k => by
  obtain ⟨tl, pl, ql⟩ := h1 X F
  obtain ⟨th, ph, qh⟩ := h2 X F
  refine w_pe (pe_slice sl_tupA pe_w pl ph) ?_
  refine ha X F σ G H s _ fun x G1 H1 d x1 s1 r1 p1 => ql σ G1 H1 s1 _ fun o G2 H2 x2 s2 p2 => qh σ G2 H2 s2 _ fun u G3 H3 x3 s3 p3 => ?_
  obtain ⟨l, rfl, hp⟩ := h d o u p1 p2 p3
  obtain ⟨a', xs, rfl, hq, hl, r⟩ := (r1.mono (x2.trans x3).g).tup'
  have hlen := r.length
  refine ⟨a', xs, rfl, by rw [F.K]; exact ex_t s3.ex hq, fun hw => ?_, fun _ p np => ?_⟩
  · rw [hlen] at hw
    have e : cutD l o u = l := by
      unfold cutD; rw [hw.1, hw.2]; simp
    rw [e] at hp
    exact (k.mono ((x1.trans x2).trans x3)).now s3 (.tup hq hl r) hp
  · obtain ⟨s4, x4⟩ := s3.laid (o := .tup (cutV xs o u)) np
    exact k _ _ _ _ (((x1.trans x2).trans x3).trans x4) s4 (.tup (SqT.of upd_same) (Nat.le_trans (cutD_length l o u) hl) ((r.cut o u).mono x4.g)) hp
theorem ev_slT {lo hi : Option Expr} {p2 : Pos} {l : List D} {o u : Option Int} (ha : EvE I c a ds (· = .tuple l)) (h1 : EvO I c lo ds (· = o)) (h2 : EvO I c hi ds (· = u)) :
    EvE I c (.Subscript a (.Slice lo hi none p2) pos) ds (· = .tuple (cutD l o u)) :=
  ev_slTP ha h1 h2 fun x o' u' hx ho hu => ⟨l, hx, by rw [ho, hu]⟩
theorem ev_slL {lo hi : Option Expr} {p2 : Pos} {l : List D} {o u : Option Int} (ha : EvE I c a ds (· = .list l)) (h1 : EvO I c lo ds (· = o)) (h2 : EvO I c hi ds (· = u)) :
    EvE I c (.Subscript a (.Slice lo hi none p2) pos) ds (· = .list (cutD l o u)) := fun X F σ G H s Q k => by
  obtain ⟨tl, pl, ql⟩ := h1 X F
  obtain ⟨th, ph, qh⟩ := h2 X F
  refine w_pe (pe_slice sl_list pe_w pl ph) ?_
  refine ha X F σ G H s _ fun x G1 H1 d x1 s1 r1 p1 => ql σ G1 H1 s1 _ fun o' G2 H2 x2 s2 p2 => qh σ G2 H2 s2 _ fun u' G3 H3 x3 s3 p3 => ?_
  subst p1; subst p2; subst p3
  obtain ⟨a', xs, rfl, hq, hl, r⟩ := (r1.mono (x2.trans x3).g).lst'
  refine ⟨a', xs, rfl, SqL.of (s3.ex _ _ hq), fun p np => ?_⟩
  obtain ⟨s4, x4⟩ := s3.laid (o := .lst (cutV xs o' u')) np
  exact k _ _ _ _ (((x1.trans x2).trans x3).trans x4) s4 (.lst upd_same (Nat.le_trans (cutD_length l o' u') hl) ((r.cut o' u').mono x4.g)) rfl

/-! sums of lists and tuples -/
theorem ev_catTP (ha : EvE I c a ds PA) (hb : EvE I c b ds PB) (h : ∀ x y, PA x → PB y → ∃ l m, x = .tuple l ∧ y = .tuple m ∧ l.length + m.length ≤ Lm ∧ P (.tuple (l ++ m))) : EvE I c (.BinOp a .Add b pos) ds P :=
  ev_op (r := rCatA I.K) (fun X F => by have := op_catA (X := X); rw [F.K] at this; exact this) ha hb fun d e pd pe σ G H x y s rx ry Q k => by
    obtain ⟨l, m, rfl, rfl, hl, hp⟩ := h d e pd pe
    obtain ⟨a1, xs, rfl, h1, l1, r1⟩ := rx.tup'
    obtain ⟨a2, ys, rfl, h2, l2, r2⟩ := ry.tup'
    refine ⟨a1, a2, xs, ys, rfl, rfl, ex_t s.ex h1, ex_t s.ex h2, by rw [r1.length, r2.length]; exact Lm_le hl, fun z => ?_, fun _ z => ?_, fun _ _ p np => ?_⟩
    · have : l = [] := List.eq_nil_of_length_eq_zero (by rw [← r1.length, z]; rfl)
      subst this; exact k.now s ry hp
    · have : m = [] := List.eq_nil_of_length_eq_zero (by rw [← r2.length, z]; rfl)
      subst this; rw [List.append_nil] at hp; exact k.now s rx hp
    · obtain ⟨s4, x4⟩ := s.laid (o := .tup (xs ++ ys)) np
      exact k _ _ _ _ x4 s4 (.tup (SqT.of upd_same) (by rw [List.length_append]; exact hl) ((r1.append r2).mono x4.g)) hp
theorem ev_catT {l m : List D} (ha : EvE I c a ds (· = .tuple l)) (hb : EvE I c b ds (· = .tuple m)) (hl : l.length + m.length ≤ Lm) : EvE I c (.BinOp a .Add b pos) ds (· = .tuple (l ++ m)) :=
  ev_catTP ha hb fun x y hx hy => ⟨l, m, hx, hy, hl, rfl⟩
theorem ev_catL {l m : List D} (ha : EvE I c a ds (· = .list l)) (hb : EvE I c b ds (· = .list m)) (hl : l.length + m.length ≤ Lm) : EvE I c (.BinOp a .Add b pos) ds (· = .list (l ++ m)) :=
  ev_op (r := rCat) (fun X F => op_cat) ha hb fun d e pd pe σ G H x y s rx ry Q k => by
    subst pd; subst pe
    obtain ⟨a1, xs, rfl, h1, l1, r1⟩ := rx.lst'
    obtain ⟨a2, ys, rfl, h2, l2, r2⟩ := ry.lst'
    refine ⟨a1, a2, xs, ys, rfl, rfl, s.ex _ _ h1, s.ex _ _ h2, by rw [r1.length, r2.length]; exact Lm_le hl, fun p np => ?_⟩
    obtain ⟨s4, x4⟩ := s.laid (o := .lst (xs ++ ys)) np
    exact k _ _ _ _ x4 s4 (.lst upd_same (by rw [List.length_append]; exact hl) ((r1.append r2).mono x4.g)) rfl
theorem RpA.rep {K : Frag} {G : Hp} {l : List D} {vs : List V} (r : RpA K G l vs) : ∀ n : Nat, RpA K G (List.replicate n l).flatten (List.replicate n vs).flatten
  | 0 => RpA.nil
  | n + 1 => by rw [List.replicate_succ, List.replicate_succ, List.flatten_cons, List.flatten_cons]; exact r.append (RpA.rep r n)
theorem ev_repL {l : List D} {n : Int} (ha : EvE I c a ds (· = .list l)) (hb : EvE I c b ds (· = .int n)) (h1 : -(2 ^ 63) ≤ n) (h2 : n < 2 ^ 63) (hl : l.length * n.toNat ≤ Lm) : EvE I c (.BinOp a .Mult b pos) ds (· = .list (List.replicate n.toNat l).flatten) :=
  ev_op (r := rRep) (fun X F => op_rep) ha hb fun d e pd pe σ G H x y s rx ry Q k => by
    subst pd; subst pe
    obtain ⟨a1, xs, rfl, h3, l1, r1⟩ := rx.lst'
    rw [ry.int']
    have e : ((List.replicate n.toNat l).flatten).length = l.length * n.toNat := by simp [List.length_flatten, List.map_replicate, List.sum_replicate_nat, Nat.mul_comm]
    refine ⟨a1, n, xs, rfl, rfl, s.ex _ _ h3, h1, h2, by rw [r1.length]; exact Lm_le hl, fun p np => ?_⟩
    obtain ⟨s4, x4⟩ := s.laid (o := .lst (List.replicate n.toNat xs).flatten) np
    exact k _ _ _ _ x4 s4 (.lst upd_same (by rw [e]; exact hl) ((r1.rep _).mono x4.g)) rfl

/-! built-in calls -/
/-- a built-in function of one argument -/
theorem ev_callB {id : String} {x : Str} {p : Pos} {R : List D → Prop} {r : List V → Hp → VK → Prop} (hc : ∀ X, Fits I X → CallR X (.builtin id) r) (hg : I.sc.names.lookup x = some .globalImplicit) (hm : I.mg x = none) (hv : bootBuiltins x = some (.builtin id))
    (ha : EvA I c (e :: es) ds R) (h : ∀ l, R l → ∀ σ G H vs, S I c G H σ ds → RpA I.K G l vs → ∀ Q : VK, Kv I c G H σ ds P Q → r vs H Q) (hn : x ≠ "__name__" := by decide) (hdb : (x == ("__debug__" : Str)) = false := by decide)
    (he : ∀ X, Fits I X → starEach (e :: es) X.env = (false, eval e X.env) :: starEach es X.env := by intros; rfl) (hpl : ∀ X, Fits I X → (backTo pos (starEach es X.env)).any (·.1) = false := by intros; rfl) : EvE I c (.Call (.Name x p) (e :: es) [] pos) ds P :=
  fun X F σ G H s Q k => w_pe (pe_callB (hc X F) (by show X.env.scope.names.lookup x = _; rw [F.sc]; exact hg) (by rw [F.mg]; exact hm) hv pa_w hn hdb (he X F) (hpl X F))
    (ha X F σ G H s _ fun vs G1 H1 l x1 s1 r1 p1 => h l p1 σ G1 H1 vs s1 r1 Q (k.mono x1))
theorem ev_callTy {T : String} {x : Str} {p : Pos} {R : List D → Prop} {r : List V → Hp → VK → Prop} (hc : ∀ X, Fits I X → CallR X (.type T) r) (hg : I.sc.names.lookup x = some .globalImplicit) (hm : I.mg x = none) (hv : bootBuiltins x = some (.type T))
    (ha : EvA I c (e :: es) ds R) (h : ∀ l, R l → ∀ σ G H vs, S I c G H σ ds → RpA I.K G l vs → ∀ Q : VK, Kv I c G H σ ds P Q → r vs H Q) (hn : x ≠ "__name__" := by decide) (hdb : (x == ("__debug__" : Str)) = false := by decide)
    (he : ∀ X, Fits I X → starEach (e :: es) X.env = (false, eval e X.env) :: starEach es X.env := by intros; rfl) (hpl : ∀ X, Fits I X → (backTo pos (starEach es X.env)).any (·.1) = false := by intros; rfl) : EvE I c (.Call (.Name x p) (e :: es) [] pos) ds P :=
  fun X F σ G H s Q k => w_pe (pe_callTy (hc X F) (by show X.env.scope.names.lookup x = _; rw [F.sc]; exact hg) (by rw [F.mg]; exact hm) hv pa_w hn hdb (he X F) (hpl X F))
    (ha X F σ G H s _ fun vs G1 H1 l x1 s1 r1 p1 => h l p1 σ G1 H1 vs s1 r1 Q (k.mono x1))
section
variable {p : Pos} {x : Str}
theorem rpa1 {K : Frag} {G : Hp} {d : D} {vs : List V} (r : RpA K G [d] vs) : ∃ v, vs = [v] ∧ Rp K G d v := by
  obtain ⟨v, ws, rfl, h1, h2⟩ := r.inv
  unfold RpA at h2; subst h2; exact ⟨v, rfl, h1⟩
theorem rpa2 {K : Frag} {G : Hp} {d e : D} {vs : List V} (r : RpA K G [d, e] vs) : ∃ v u, vs = [v, u] ∧ Rp K G d v ∧ Rp K G e u := by
  obtain ⟨v, ws, rfl, h1, h2⟩ := r.inv
  obtain ⟨u, rfl, h3⟩ := rpa1 h2; exact ⟨v, u, rfl, h1, h3⟩
theorem ea_1 (h : EvE I c e ds P) (hs : ∀ X, Fits I X → starEach [e] X.env = (false, eval e X.env) :: starEach [] X.env := by intros; rfl) : EvA I c [e] ds (fun l => ∃ d, l = [d] ∧ P d) :=
  ea_consP h ea_nil (fun d l h1 h2 => ⟨d, by rw [h2], h1⟩) hs
/-- len -/
theorem ev_lenP (hg : I.sc.names.lookup ("len" : Str) = some .globalImplicit) (hm : I.mg "len" = none) (ha : EvE I c e ds PA) (h : ∀ x, PA x → ∃ l, (x = .list l ∨ x = .tuple l) ∧ P (.int (l.length : Nat)))
    (hs : ∀ X, Fits I X → starEach [e] X.env = (false, eval e X.env) :: starEach [] X.env := by intros; rfl) : EvE I c (.Call (.Name "len" p) [e] [] pos) ds P :=
  ev_callB (r := fun xs H Q => ∃ x n, xs = [x] ∧ LenV I.K x H n ∧ Q (.int n) H) (fun X F => by have := call_len (X := X); rw [F.K] at this; exact this) hg hm PySem.boot_len (ea_1 ha hs) (he := hs) (fun l ⟨d, hl, hd⟩ σ G H vs s r Q k => by
    subst hl
    obtain ⟨v, rfl, r1⟩ := rpa1 r
    obtain ⟨l, hx, hp⟩ := h d hd
    rcases hx with rfl | rfl
    · obtain ⟨a, xs, rfl, h1, h2, h3⟩ := r1.lst'
      exact ⟨_, l.length, rfl, .inl ⟨xs, SqL.of (s.ex _ _ h1), h3.length.symm⟩, k.now s .int hp⟩
    · obtain ⟨a, xs, rfl, h1, h2, h3⟩ := r1.tup'
      exact ⟨_, l.length, rfl, .inr ⟨xs, ex_t s.ex h1, h3.length.symm⟩, k.now s .int hp⟩)
theorem ev_lenL {l : List D} (hg : I.sc.names.lookup ("len" : Str) = some .globalImplicit) (hm : I.mg "len" = none) (ha : EvE I c e ds (· = .list l)) (hs : ∀ X, Fits I X → starEach [e] X.env = (false, eval e X.env) :: starEach [] X.env := by intros; rfl) :
    EvE I c (.Call (.Name "len" p) [e] [] pos) ds (· = .int (l.length : Nat)) := ev_lenP hg hm ha (fun x hx => ⟨l, .inl hx, rfl⟩) hs
theorem ev_lenT {l : List D} (hg : I.sc.names.lookup ("len" : Str) = some .globalImplicit) (hm : I.mg "len" = none) (ha : EvE I c e ds (· = .tuple l)) (hs : ∀ X, Fits I X → starEach [e] X.env = (false, eval e X.env) :: starEach [] X.env := by intros; rfl) :
    EvE I c (.Call (.Name "len" p) [e] [] pos) ds (· = .int (l.length : Nat)) := ev_lenP hg hm ha (fun x hx => ⟨l, .inr hx, rfl⟩) hs
/-- tuple(..), list(..) of a list or a tuple -/
theorem ev_tupleP (hg : I.sc.names.lookup ("tuple" : Str) = some .globalImplicit) (hm : I.mg "tuple" = none) (ha : EvE I c e ds PA) (h : ∀ x, PA x → ∃ l, (x = .list l ∨ x = .tuple l) ∧ P (.tuple l))
    (hs : ∀ X, Fits I X → starEach [e] X.env = (false, eval e X.env) :: starEach [] X.env := by intros; rfl) : EvE I c (.Call (.Name "tuple" p) [e] [] pos) ds P :=
  ev_callTy (T := "tuple") (r := fun xs H Q => ∃ p ys, xs = [.ref p] ∧ ((SqL I.K H p ys ∧ ∀ l, H l = none → Q (.ref l) (upd H l (.tup ys))) ∨ (SqT I.K H p ys ∧ Q (.ref p) H))) (fun X F => by have := call_tuple_of (X := X); rw [F.K] at this; exact this) hg hm (by decide +kernel) (ea_1 ha hs) (he := hs) (fun l ⟨d, hl, hd⟩ σ G H vs s r Q k => by
    subst hl
    obtain ⟨v, rfl, r1⟩ := rpa1 r
    obtain ⟨l, hx, hp⟩ := h d hd
    rcases hx with rfl | rfl
    · obtain ⟨a, xs, rfl, h1, h2, h3⟩ := r1.lst'
      refine ⟨_, xs, rfl, .inl ⟨SqL.of (s.ex _ _ h1), fun p np => ?_⟩⟩
      obtain ⟨s4, x4⟩ := s.laid (o := .tup xs) np
      exact k _ _ _ _ x4 s4 (.tup (SqT.of upd_same) h2 (h3.mono x4.g)) hp
    · obtain ⟨a, xs, rfl, h1, h2, h3⟩ := id r1.tup'
      exact ⟨_, xs, rfl, .inr ⟨ex_t s.ex h1, k.now s r1 hp⟩⟩)
theorem ev_tupleL {l : List D} (hg : I.sc.names.lookup ("tuple" : Str) = some .globalImplicit) (hm : I.mg "tuple" = none) (ha : EvE I c e ds (· = .list l)) (hs : ∀ X, Fits I X → starEach [e] X.env = (false, eval e X.env) :: starEach [] X.env := by intros; rfl) :
    EvE I c (.Call (.Name "tuple" p) [e] [] pos) ds (· = .tuple l) := ev_tupleP hg hm ha (fun x hx => ⟨l, .inl hx, rfl⟩) hs
theorem ev_listP (hg : I.sc.names.lookup ("list" : Str) = some .globalImplicit) (hm : I.mg "list" = none) (ha : EvE I c e ds PA) (h : ∀ x, PA x → ∃ l, (x = .list l ∨ x = .tuple l) ∧ P (.list l))
    (hs : ∀ X, Fits I X → starEach [e] X.env = (false, eval e X.env) :: starEach [] X.env := by intros; rfl) : EvE I c (.Call (.Name "list" p) [e] [] pos) ds P :=
  ev_callTy (T := "list") (r := fun xs H Q => ∃ p ys, xs = [.ref p] ∧ (SqL I.K H p ys ∨ SqT I.K H p ys) ∧ ∀ l, H l = none → Q (.ref l) (upd H l (.lst ys))) (fun X F => by have := call_list_of (X := X); rw [F.K] at this; exact this) hg hm (by decide +kernel) (ea_1 ha hs) (he := hs) (fun l ⟨d, hl, hd⟩ σ G H vs s r Q k => by
    subst hl
    obtain ⟨v, rfl, r1⟩ := rpa1 r
    obtain ⟨l, hx, hp⟩ := h d hd
    rcases hx with rfl | rfl
    · obtain ⟨a, xs, rfl, h1, h2, h3⟩ := r1.lst'
      refine ⟨_, xs, rfl, .inl (SqL.of (s.ex _ _ h1)), fun p np => ?_⟩
      obtain ⟨s4, x4⟩ := s.laid (o := .lst xs) np
      exact k _ _ _ _ x4 s4 (.lst upd_same h2 (h3.mono x4.g)) hp
    · obtain ⟨a, xs, rfl, h1, h2, h3⟩ := r1.tup'
      refine ⟨_, xs, rfl, .inr (ex_t s.ex h1), fun p np => ?_⟩
      obtain ⟨s4, x4⟩ := s.laid (o := .lst xs) np
      exact k _ _ _ _ x4 s4 (.lst upd_same h2 (h3.mono x4.g)) hp)
theorem ev_listT {l : List D} (hg : I.sc.names.lookup ("list" : Str) = some .globalImplicit) (hm : I.mg "list" = none) (ha : EvE I c e ds (· = .tuple l)) (hs : ∀ X, Fits I X → starEach [e] X.env = (false, eval e X.env) :: starEach [] X.env := by intros; rfl) :
    EvE I c (.Call (.Name "list" p) [e] [] pos) ds (· = .list l) := ev_listP hg hm ha (fun x hx => ⟨l, .inr hx, rfl⟩) hs
theorem ev_listL {l : List D} (hg : I.sc.names.lookup ("list" : Str) = some .globalImplicit) (hm : I.mg "list" = none) (ha : EvE I c e ds (· = .list l)) (hs : ∀ X, Fits I X → starEach [e] X.env = (false, eval e X.env) :: starEach [] X.env := by intros; rfl) :
    EvE I c (.Call (.Name "list" p) [e] [] pos) ds (· = .list l) := ev_listP hg hm ha (fun x hx => ⟨l, .inl hx, rfl⟩) hs
/-- sum of ints; abs; int; all of bools -/
theorem ev_sum {ns : List Int} (hg : I.sc.names.lookup ("sum" : Str) = some .globalImplicit) (hm : I.mg "sum" = none) (ha : EvE I c e ds (· = .list (ns.map PyData.int))) (hs : ∀ X, Fits I X → starEach [e] X.env = (false, eval e X.env) :: starEach [] X.env := by intros; rfl) :
    EvE I c (.Call (.Name "sum" p) [e] [] pos) ds (· = .int ns.sum) :=
  ev_callB (id := "sum") (r := rSum I.K) (fun X F => by have := cr_sum (X := X) F.calm; rw [F.K] at this; exact this) hg hm (by decide +kernel) (ea_1 ha hs) (he := hs) (fun l ⟨d, hl, hd⟩ σ G H vs s r Q k => by
    subst hl; subst hd
    obtain ⟨v, rfl, r1⟩ := rpa1 r
    obtain ⟨a, xs, rfl, h1, h2, h3⟩ := r1.lst'
    rw [RpA.ints] at h3; subst h3
    exact ⟨a, ns, rfl, SqL.of (s.ex _ _ h1), k.now s .int rfl⟩)
theorem ev_all {bs : List Bool} (hg : I.sc.names.lookup ("all" : Str) = some .globalImplicit) (hm : I.mg "all" = none) (ha : EvE I c e ds (· = .list (bs.map PyData.bool))) (hs : ∀ X, Fits I X → starEach [e] X.env = (false, eval e X.env) :: starEach [] X.env := by intros; rfl) :
    EvE I c (.Call (.Name "all" p) [e] [] pos) ds (· = .bool (bs.all id)) :=
  ev_callB (id := "all") (r := rAll I.K) (fun X F => by have := cr_all (X := X) F.calm; rw [F.K] at this; exact this) hg hm (by decide +kernel) (ea_1 ha hs) (he := hs) (fun l ⟨d, hl, hd⟩ σ G H vs s r Q k => by
    subst hl; subst hd
    obtain ⟨v, rfl, r1⟩ := rpa1 r
    obtain ⟨a, xs, rfl, h1, h2, h3⟩ := r1.lst'
    rw [RpA.bools] at h3; subst h3
    exact ⟨a, bs, rfl, SqL.of (s.ex _ _ h1), k.now s .bl rfl⟩)
theorem ev_abs {i : Int} (hg : I.sc.names.lookup ("abs" : Str) = some .globalImplicit) (hm : I.mg "abs" = none) (ha : EvE I c e ds (· = .int i)) (hs : ∀ X, Fits I X → starEach [e] X.env = (false, eval e X.env) :: starEach [] X.env := by intros; rfl) :
    EvE I c (.Call (.Name "abs" p) [e] [] pos) ds (· = .int i.natAbs) :=
  ev_callB (id := "abs") (fun X F => call_abs) hg hm (by decide +kernel) (ea_1 ha hs) (he := hs) (fun l ⟨d, hl, hd⟩ σ G H vs s r Q k => by
    subst hl; subst hd
    obtain ⟨v, rfl, r1⟩ := rpa1 r
    rw [r1.int']
    exact ⟨i, rfl, k.now s .int (by congr 1; split <;> omega)⟩)
theorem ev_intB {b : Bool} (hg : I.sc.names.lookup ("int" : Str) = some .globalImplicit) (hm : I.mg "int" = none) (ha : EvE I c e ds (· = .bool b)) (hs : ∀ X, Fits I X → starEach [e] X.env = (false, eval e X.env) :: starEach [] X.env := by intros; rfl) :
    EvE I c (.Call (.Name "int" p) [e] [] pos) ds (· = .int (if b then 1 else 0)) :=
  ev_callTy (T := "int") (fun X F => call_int1) hg hm (by decide +kernel) (ea_1 ha hs) (he := hs) (fun l ⟨d, hl, hd⟩ σ G H vs s r Q k => by
    subst hl; subst hd
    obtain ⟨v, rfl, r1⟩ := rpa1 r
    rw [r1.bl']
    exact .inr ⟨b, rfl, k.now s .int rfl⟩)
theorem ev_intIP {q : Int → Prop} (hg : I.sc.names.lookup ("int" : Str) = some .globalImplicit) (hm : I.mg "int" = none) (ha : EvE I c e ds (IsI q)) (hs : ∀ X, Fits I X → starEach [e] X.env = (false, eval e X.env) :: starEach [] X.env := by intros; rfl) :
    EvE I c (.Call (.Name "int" p) [e] [] pos) ds (IsI q) :=
  ev_callTy (T := "int") (fun X F => call_int1) hg hm (by decide +kernel) (ea_1 ha hs) (he := hs) (fun l ⟨d, hl, hd⟩ σ G H vs s r Q k => by
    subst hl
    obtain ⟨i, rfl, hi⟩ := hd
    obtain ⟨v, rfl, r1⟩ := rpa1 r
    rw [r1.int']
    exact .inl ⟨i, rfl, k.now s .int ⟨i, rfl, hi⟩⟩)
end
end
end Dl


set_option Elab.async false
set_option linter.all false
namespace Dl
open PySem L2

/-! ### what follows a statement -/
structure After where
  nx : List SD → Prop
  rt : D → Prop
  ro : List D → Prop := fun _ => False
  bk : List SD → Prop := fun _ => False
  ct : List SD → Prop := fun _ => False
  r3 : D → D → List D → Prop := fun _ _ _ => False

structure Holds (I : Inf) (c : Ct) (G : Hp) (A : After) (E : Ends) : Prop where
  nx : ∀ σ' G' H' ds', Ex G G' → S I c G' H' σ' ds' → A.nx ds' → E.nx σ' H'
  bk : ∀ σ' G' H' ds', Ex G G' → S I c G' H' σ' ds' → A.bk ds' → E.bk σ' H'
  ct : ∀ σ' G' H' ds', Ex G G' → S I c G' H' σ' ds' → A.ct ds' → E.ct σ' H'
  rt : ∀ v G' H' d, S I c G' H' [] [] → Rp I.K G' d v → A.rt d → E.rt v H'
  ro : ∀ p xs G' H' l, S I c G' H' [] [] → c.H0 p = none → G' p = none → ¬ inDeck c.Z p → l.length ≤ Lm → H' p = some (.lst xs) → RpA I.K G' l xs → A.ro l → E.rt (.ref p) H'
  r3 : ∀ t b xs v1 v2 G' H' d1 d2 l, S I c G' H' [] [] → c.H0 b = none → G' b = none → ¬ inDeck c.Z b → l.length ≤ Lm → H' b = some (.lst xs) → RpA I.K G' l xs → H' t = some (.tup [v1, v2, .ref b]) → Rp I.K G' d1 v1 → Rp I.K G' d2 v2 → A.r3 d1 d2 l → E.rt (.ref t) H'
theorem Holds.mono {I : Inf} {c : Ct} {G G1 : Hp} {A : After} {E : Ends} (h : Holds I c G A E) (x : Ex G G1) : Holds I c G1 A E :=
  ⟨fun σ' G' H' ds' e => h.nx σ' G' H' ds' (x.trans e), fun σ' G' H' ds' e => h.bk σ' G' H' ds' (x.trans e), fun σ' G' H' ds' e => h.ct σ' G' H' ds' (x.trans e), h.rt, h.ro, h.r3⟩

def RunW (I : Inf) (c : Ct) (W : Cx → TS) (ds : List SD) (A : After) : Prop := ∀ X, Fits I X → ∀ σ G H E, S I c G H σ ds → Holds I c G A E → W X E σ H
def Run (I : Inf) (c : Ct) (ss : List Stmt) (ds : List SD) (A : After) : Prop := RunW I c (fun X => wSs X ss) ds A
def RunS (I : Inf) (c : Ct) (st : Stmt) (ds : List SD) (A : After) : Prop := RunW I c (fun X => wS X st) ds A

section
variable {I : Inf} {c : Ct} {ds : List SD} {A : After} {st : Stmt} {rest : List Stmt} {e : Expr} {P : D → Prop} {pos : Pos} {d : D}
theorem run_nil (h : A.nx ds) : Run I c [] ds A := fun X F σ G H E s k => w_pss pss_nil (k.nx σ G H ds (Ex.refl G) s h)
theorem run_cons {Mid : List SD → Prop} (h1 : RunS I c st ds { A with nx := Mid }) (h2 : ∀ ds', Mid ds' → Run I c rest ds' A) : Run I c (st :: rest) ds A := fun X F σ G H E s k =>
  w_pss (pss_cons ps_w pss_w) (h1 X F σ G H { E with nx := wSs X rest E } s ⟨fun σ' G' H' ds' e s' m => h2 ds' m X F σ' G' H' E s' (k.mono e), k.bk, k.ct, k.rt, k.ro, k.r3⟩)
theorem run_one (h1 : RunS I c st ds A) : Run I c [st] ds A := fun X F σ G H E s k => w_pss (pss_one ps_w) (h1 X F σ G H E s k)
/-- a statement behind which one state is known -/
theorem run_to {ds1 : List SD} (h1 : RunS I c st ds { A with nx := (· = ds1) }) (h2 : Run I c rest ds1 A) : Run I c (st :: rest) ds A := run_cons h1 fun ds' e => by rw [e]; exact h2
theorem RunW.imp {W : Cx → TS} {A' : After} (h : RunW I c W ds A) (n : ∀ x, A.nx x → A'.nx x) (r : ∀ x, A.rt x → A'.rt x) (o : ∀ x, A.ro x → A'.ro x) (b : ∀ x, A.bk x → A'.bk x) (t : ∀ x, A.ct x → A'.ct x) (u : ∀ x y z, A.r3 x y z → A'.r3 x y z) : RunW I c W ds A' :=
  fun X F σ G H E s k => h X F σ G H E s ⟨fun σ' G' H' ds' e s' m => k.nx σ' G' H' ds' e s' (n _ m), fun σ' G' H' ds' e s' m => k.bk σ' G' H' ds' e s' (b _ m), fun σ' G' H' ds' e s' m => k.ct σ' G' H' ds' e s' (t _ m),
    fun v G' H' d s' r' m => k.rt v G' H' d s' r' (r _ m), fun p xs G' H' l s' a1 a2 a3 a4 a5 a6 m => k.ro p xs G' H' l s' a1 a2 a3 a4 a5 a6 (o _ m), fun t b xs v1 v2 G' H' d1 d2 l s' a1 a2 a3 a4 a5 a6 a7 a8 a9 m => k.r3 t b xs v1 v2 G' H' d1 d2 l s' a1 a2 a3 a4 a5 a6 a7 a8 a9 (u _ _ _ m)⟩

/-- the name in slot i is stored to -/
structure Sto (I : Inf) (i : Nat) (x : Str) : Prop where
  at_ : I.N[i]? = some x
  loc : Loc I.sc x
  cel : I.fnc x = true ∨ I.sc.names.lookup x = some .local
theorem Sto.fn {i : Nat} {x : Str} (h : Sto I i x) {X : Cx} (F : Fits I X) : X.fn x = true ∨ X.env.scope.names.lookup x = some .local := by
  rcases h.cel with k | k
  · left; exact F.fn x k
  · right; rw [F.sc]; exact k

theorem rs_setP {i : Nat} {x : Str} {p : Pos} (hx : Sto I i x) (h : EvE I c e ds P) (hn : ∀ d, P d → A.nx (ds.set i (.dat d)))
    (hs : ∀ X, Fits I X → swapsWith e (some (.Name x p)) pos.line X.env = pure false := by intros; rfl) : RunS I c (.Assign [.Name x p] e pos) ds A := fun X F σ G H E s k =>
  w_ps (ps_set (i := i) (by rw [F.N]; exact F.nd) (by rw [F.N]; exact hx.at_) (by rw [F.sc]; exact hx.loc) pe_w (hs X F) (hx.fn F)) (h X F σ G H s _ fun v G1 H1 d x1 s1 r1 p1 =>
    k.nx _ G1 H1 _ x1.g (s1.set (i := i) (sd := .dat d) rfl ⟨v, rfl, r1⟩) (hn d p1))
theorem rs_set {i : Nat} {x : Str} {p : Pos} (hx : Sto I i x) (h : EvE I c e ds (· = d)) 
    (hs : ∀ X, Fits I X → swapsWith e (some (.Name x p)) pos.line X.env = pure false := by intros; rfl) : RunS I c (.Assign [.Name x p] e pos) ds { A with nx := (· = ds.set i (.dat d)) } :=
  rs_setP hx h (fun d' e => by rw [e]) hs

theorem rs_if {t : Expr} {a b : List Stmt} {PT : Bool → Prop} (h : EvT I c t ds PT) (h1 : PT true → Run I c a ds A) (h2 : PT false → Run I c b ds A) : RunS I c (.If t a b pos) ds A := fun X F σ G H E s k =>
  w_ps (ps_if pt_w pss_w pss_w) (h X F σ G H s _ fun b' G1 H1 x1 s1 p1 => by
    cases b' with
    | true => exact iteT (h1 p1 X F σ G1 H1 E s1 (k.mono x1.g))
    | false => exact iteF (h2 p1 X F σ G1 H1 E s1 (k.mono x1.g)))
theorem rs_retP (h : EvE I c e ds P) (hr : ∀ d, P d → A.rt d) : RunS I c (.Return (some e) pos) ds A := fun X F σ G H E s k =>
  w_ps (ps_ret pe_w) (h X F σ G H s _ fun v G1 H1 d x1 s1 r1 p1 => k.rt v G1 H1 d s1.drop r1 (hr d p1))
theorem rs_ret (h : EvE I c e ds (· = d)) (hr : A.rt d) : RunS I c (.Return (some e) pos) ds A := rs_retP h fun d' e => by rw [e]; exact hr
theorem rs_pass (h : A.nx ds) : RunS I c (.Pass pos) ds A := fun X F σ G H E s k => w_ps ps_pass (k.nx σ G H ds (Ex.refl G) s h)
theorem rs_continue (h : A.ct ds) : RunS I c (.Continue pos) ds A := fun X F σ G H E s k => w_ps ps_continue (k.ct σ G H ds (Ex.refl G) s h)
theorem rs_break (h : A.bk ds) : RunS I c (.Break pos) ds A := fun X F σ G H E s k => w_ps ps_break (k.bk σ G H ds (Ex.refl G) s h)

/-! owned lists -/
theorem own_at {σ : St} {G H : Hp} {i : Nat} {l : List D} (s : S I c G H σ ds) (h : ds[i]? = some (.own l)) : ∃ p xs, σ[i]? = some (some (.ref p)) ∧ (c.H0 p = none ∨ c.Z.given = some p) ∧ G p = none ∧ ¬ inDeck c.Z p ∧ l.length ≤ Lm ∧ H p = some (.lst xs) ∧ RpA I.K G l xs := by
  obtain ⟨p, xs, e1, q⟩ := s.slots i _ h
  refine ⟨p, xs, ?_, q⟩
  cases z : σ[i]? with
  | none => rw [z] at e1; cases e1
  | some o => rw [z] at e1; simpa using e1
/-- an owned list changed -/
theorem own_put {σ : St} {G H : Hp} {i : Nat} {l l' : List D} {p : Addr} {xs : List V} (s : S I c G H σ ds) (h : ds[i]? = some (.own l)) (hp : σ[i]? = some (some (.ref p))) (r : RpA I.K G l' xs) (hl : l'.length ≤ Lm) :
    S I c G (upd H p (.lst xs)) σ (ds.set i (.own l')) := by
  obtain ⟨p', xs0, e1, h0, h1, h2, h3, h4, h5⟩ := own_at s h
  rw [hp] at e1
  simp only [Option.some.injEq, V.ref.injEq] at e1
  subst e1
  have hi : i < ds.length := (List.getElem?_eq_some_iff.mp h).1
  refine ⟨s.ex.mut h1, s.exg, s.nw, fun a u q1 q2 => ?_, ?_, by simp [s.len], fun q hq z => ?_, fun j sd hj => ?_, fun j k d1 d2 q hjk g1 g2 g3 => ?_⟩
  · have : a ≠ p := by
      rintro rfl
      rcases h0 with h0 | h0
      · rw [h0] at q1; cases q1
      · exact q2 (.inr h0)
    rw [upd_ne this]; exact s.exm a u q1 q2
  · have hk := s.deck
    unfold DeckIn at *
    unfold inDeck at h2
    split
    · trivial
    · rename_i dk cc hq
      rw [hq] at hk h2
      obtain ⟨d1, d2, d3, cells, mixed, draws, b1, b2, b3, b4, k1, k2⟩ := hk
      have n1 : dk ≠ p := fun e => h2 (.inl e.symm)
      have n2 : cc ≠ p := fun e => h2 (.inr e.symm)
      exact ⟨d1, d2, d3, cells, mixed, draws, b1, b2, b3, b4, by rw [upd_ne n1]; exact k1, by rw [upd_ne n2]; exact k2⟩
  · by_cases e : q = p
    · rw [e, upd_same] at z; cases z
    · rw [upd_ne e] at z; exact s.giv q hq z
  · by_cases e : j = i
    · subst e
      rw [List.getElem?_set_self hi] at hj; cases hj
      exact ⟨p, xs, by rw [hp]; rfl, h0, h1, h2, hl, upd_same, r⟩
    · rw [List.getElem?_set_ne (Ne.symm e)] at hj
      have q := s.slots j sd hj
      cases sd with
      | un => trivial
      | dat d => exact q
      | own m =>
        obtain ⟨p2, ys, f1, f2, f3, f4, f5, f6, f7⟩ := own_at s hj
        refine ⟨p2, ys, by rw [f1]; rfl, f2, f3, f4, f5, ?_, f7⟩
        have : p2 ≠ p := by
          rintro rfl
          exact s.dist i j l m p2 (Ne.symm e) h hj hp f1
        rw [upd_ne this]; exact f6
      | deck => exact q
      | raw v => exact q
  · have g : ∀ {j : Nat} {d1 : List D}, (ds.set i (.own l'))[j]? = some (.own d1) → ∃ d2, ds[j]? = some (.own d2) := by
      intro j d1 g
      by_cases e : j = i
      · subst e; exact ⟨l, h⟩
      · rw [List.getElem?_set_ne (Ne.symm e)] at g; exact ⟨d1, g⟩
    obtain ⟨a1, b1⟩ := g g1
    obtain ⟨a2, b2⟩ := g g2
    exact s.dist j k a1 a2 q hjk b1 b2 g3
/-- an owned list becomes data -/
theorem own_know {σ : St} {G H : Hp} {i : Nat} {l : List D} {p : Addr} (s : S I c G H σ ds) (h : ds[i]? = some (.own l)) (hp : σ[i]? = some (some (.ref p))) :
    ∃ xs, S I c (upd G p (.lst xs)) H σ (ds.set i (.dat (.list l))) ∧ Ex G (upd G p (.lst xs)) ∧ Rp I.K (upd G p (.lst xs)) (.list l) (.ref p) := by
  obtain ⟨p', xs, e1, h0, h1, h2, h3, h4, h5⟩ := own_at s h
  rw [hp] at e1
  simp only [Option.some.injEq, V.ref.injEq] at e1
  subst e1
  have hi : i < ds.length := (List.getElem?_eq_some_iff.mp h).1
  have s1 : S I c G H σ (ds.set i .un) := s.forget
  have no : NoOwn σ (ds.set i .un) p := by
    intro j m hj e
    by_cases z : j = i
    · subst z; rw [List.getElem?_set_self hi] at hj; cases hj
    · rw [List.getElem?_set_ne (Ne.symm z)] at hj
      exact s.dist i j l m p (Ne.symm z) h hj hp e
  have s2 : S I c (upd G p (.lst xs)) H σ (ds.set i .un) := State.know s1 h4 h1 h2 h0 no
  have r : Rp I.K (upd G p (.lst xs)) (.list l) (.ref p) := .lst upd_same h3 (h5.mono (Ex.new h1))
  refine ⟨xs, ?_, Ex.new h1, r⟩
  have s3 := State.set s2 (i := i) (v := .ref p) (sd := .dat (.list l)) rfl ⟨_, rfl, r⟩
  rw [List.set_set] at s3
  have : σ.set i (some (.ref p)) = σ := by
    apply List.ext_getElem?
    intro j
    by_cases z : i = j
    · subst z
      have : i < σ.length := (List.getElem?_eq_some_iff.mp hp).1
      rw [List.getElem?_set_self this, hp]
    · rw [List.getElem?_set_ne z]
  rw [this] at s3
  exact s3
/-- .. between two statements -/
theorem run_freeze {ss : List Stmt} {i : Nat} {l : List D} (h : ds[i]? = some (.own l)) (hr : Run I c ss (ds.set i (.dat (.list l))) A) : Run I c ss ds A := fun X F σ G H E s k => by
  obtain ⟨p, xs, e1, h0, _⟩ := own_at s h
  obtain ⟨ys, s2, x2, _⟩ := own_know s h e1
  exact hr X F σ _ H E s2 (k.mono x2)
theorem rs_freeze {i : Nat} {l : List D} (h : ds[i]? = some (.own l)) (hr : RunS I c st (ds.set i (.dat (.list l))) A) : RunS I c st ds A := fun X F σ G H E s k => by
  obtain ⟨p, xs, e1, h0, _⟩ := own_at s h
  obtain ⟨ys, s2, x2, _⟩ := own_know s h e1
  exact hr X F σ _ H E s2 (k.mono x2)
/-- return x, x an owned list -/
theorem rs_retO {i : Nat} {x : Str} {p : Pos} {l : List D} (hN : I.N[i]? = some x) (hv : Vis I.sc x) (hz : c.Z.given = none) (h : ds[i]? = some (.own l)) (hr : A.ro l) (h1 : (x == ("__debug__" : Str)) = false := by decide) (h2 : (x == ("__classdict__" : Str)) = false := by decide) :
    RunS I c (.Return (some (.Name x p)) pos) ds A := fun X F σ G H E s k => by
  obtain ⟨q, xs, e1, h0, h3, h4, h5, h6, h7⟩ := own_at s h
  have h0' : c.H0 q = none := by
    rcases h0 with h0 | h0
    · exact h0
    · rw [hz] at h0; cases h0
  exact w_ps (ps_ret (pe_var (i := i) (by rw [F.N]; exact hN) (by rw [F.sc]; exact hv) h1 h2)) ⟨.ref q, e1, k.ro q xs G H l s.drop h0' h3 h4 h5 h6 h7 hr⟩

/-- a fresh list comes -/
def EvF (I : Inf) (c : Ct) (e : Expr) (ds : List SD) (P : List D → Prop) : Prop := ∀ X, Fits I X → ∀ σ G H, S I c G H σ ds → ∀ Q : VK,
  (∀ p xs G' H' l, Gr c.Z G H G' H' → S I c G' H' σ ds → H p = none → G' p = none → ¬ inDeck c.Z p → l.length ≤ Lm → H' p = some (.lst xs) → RpA I.K G' l xs → P l → Q (.ref p) H') → wE X e σ H Q
theorem S.h0none {σ : St} {G H : Hp} (s : S I c G H σ ds) {p : Addr} (h : H p = none) : c.H0 p = none := by
  cases e : c.H0 p with
  | none => rfl
  | some o =>
    by_cases hz : inZ c.Z p
    · rcases hz with hz | hz
      · exact absurd h (s.deck.ne hz).1
      · exact absurd h (s.giv p hz)
    · rw [s.exm p o e hz] at h; cases h
theorem S.ndeck {σ : St} {G H : Hp} (s : S I c G H σ ds) {p : Addr} (h : H p = none) : ¬ inDeck c.Z p := fun z => (s.deck.ne z).1 h
theorem S.gnone {σ : St} {G H : Hp} (s : S I c G H σ ds) {p : Addr} (h : H p = none) : G p = none := by
  cases e : G p with
  | none => rfl
  | some o => rw [s.ex p o e] at h; cases h
/-- a fresh list's slot -/
theorem own_new {σ : St} {G H G' H' : Hp} {i : Nat} {p : Addr} {xs : List V} {l : List D} (s : S I c G H σ ds) (s' : S I c G' H' σ ds) (np : H p = none) (hg : G' p = none) (hl : l.length ≤ Lm) (hh : H' p = some (.lst xs)) (r : RpA I.K G' l xs) :
    S I c G' H' (σ.set i (some (.ref p))) (ds.set i (.own l)) := by
  have no := s.noOwn np
  refine ⟨s'.ex, s'.exg, s'.nw, s'.exm, s'.deck, by simp [s'.len], s'.giv, fun j sd h => ?_, fun j k d1 d2 q hjk g1 g2 g3 => ?_⟩
  · by_cases e : j = i
    · subst e
      have hlt : j < ds.length := by
        rcases Nat.lt_or_ge j ds.length with h0 | h0
        · exact h0
        · rw [List.getElem?_eq_none (by simp; exact h0)] at h; cases h
      rw [List.getElem?_set_self hlt] at h; cases h
      rw [List.getElem?_set_self (by rw [s.len]; exact hlt)]
      exact ⟨p, xs, rfl, .inl (s.h0none np), hg, s.ndeck np, hl, hh, r⟩
    · rw [List.getElem?_set_ne (Ne.symm e)] at *; exact s'.slots j sd h
  · by_cases e1 : j = i
    · subst e1
      have hlt : j < σ.length := by
        rcases Nat.lt_or_ge j σ.length with h0 | h0
        · exact h0
        · rw [List.getElem?_eq_none (by simp; exact h0)] at g3; cases g3
      rw [List.getElem?_set_self hlt] at g3; cases g3
      rw [List.getElem?_set_ne hjk] at *
      exact no k d2 g2
    · rw [List.getElem?_set_ne (Ne.symm e1)] at g1 g3
      by_cases e2 : k = i
      · subst e2
        intro z
        have hlt : k < σ.length := by
          rcases Nat.lt_or_ge k σ.length with h0 | h0
          · exact h0
          · rw [List.getElem?_eq_none (by simp; exact h0)] at z; cases z
        rw [List.getElem?_set_self hlt] at z; cases z
        exact no j d1 g1 g3
      · rw [List.getElem?_set_ne (Ne.symm e2)] at *
        exact s.dist j k d1 d2 q hjk g1 g2 g3
theorem rs_setF {i : Nat} {x : Str} {p : Pos} {PL : List D → Prop} (hx : Sto I i x) (h : EvF I c e ds PL) (hn : ∀ l, PL l → A.nx (ds.set i (.own l)))
    (hs : ∀ X, Fits I X → swapsWith e (some (.Name x p)) pos.line X.env = pure false := by intros; rfl) : RunS I c (.Assign [.Name x p] e pos) ds A := fun X F σ G H E s k =>
  w_ps (ps_set (i := i) (by rw [F.N]; exact F.nd) (by rw [F.N]; exact hx.at_) (by rw [F.sc]; exact hx.loc) pe_w (hs X F) (hx.fn F)) (h X F σ G H s _ fun q xs G1 H1 l x1 s1 np hg hd hl hh r1 p1 =>
    k.nx _ G1 H1 _ x1.g (own_new s s1 np hg hl hh r1) (hn l p1))
theorem ef_lst {es : List Expr} {R : List D → Prop} (h : EvA I c es ds R) (hl : ∀ l, R l → l.length ≤ Lm) : EvF I c (.List es pos) ds R := fun X F σ G H s Q k =>
  w_pe (pe_lst pa_w) (h X F σ G H s _ fun vs G1 H1 l x1 s1 r1 p1 => ⟨by rw [r1.length]; exact Lm_le (hl l p1), fun p np => by
    have hp : H p = none := by
      cases e : H p with
      | none => rfl
      | some o => exact absurd np (x1.dom p (by rw [e]; exact fun z => nomatch z))
    have g1 := S.gnone s1 np
    exact k p vs G1 (upd H1 p (.lst vs)) l ⟨x1.g, fun a o h z => by rw [upd_ne (ne_of_none (x1.h a o h z) np)]; exact x1.h a o h z, x1.nw, fun q hq z => by
        by_cases e : q = p
        · rw [e, upd_same] at z; cases z
        · rw [upd_ne e] at z; exact x1.dom q hq z⟩ (State.aside s1 np) hp g1 (S.ndeck s1 np) (hl l p1) upd_same r1 p1⟩)
/-- a fresh list as data -/
theorem ev_fresh {PL : List D → Prop} (h : EvF I c e ds PL) (hp : ∀ l, PL l → P (.list l)) : EvE I c e ds P := fun X F σ G H s Q k =>
  h X F σ G H s _ fun p xs G1 H1 l x1 s1 np hg hd hl hh r1 p1 => by
    have no := s.noOwn np
    have s2 : S I c (upd G1 p (.lst xs)) H1 σ ds := State.know s1 hh hg hd (.inl (S.h0none s np)) no
    refine k _ (upd G1 p (.lst xs)) H1 (.list l) ⟨x1.g.trans (Ex.new hg), x1.h, fun q hq => ?_, x1.dom⟩ s2 (.lst upd_same hl (r1.mono (Ex.new hg))) (hp l p1)
    by_cases e : q = p
    · right; rw [e]; exact np
    · rw [upd_ne e] at hq; exact x1.nw q hq
end
end Dl


set_option Elab.async false
set_option linter.all false
namespace Dl
open PySem L2
section
variable {I : Inf} {c : Ct} {ds : List SD} {A : After} {st : Stmt} {rest : List Stmt} {e : Expr} {P : D → Prop} {pos : Pos} {d : D}

/-! owned lists: append, a store by place -/
/-- evaluating leaves the owned slots' places -/
theorem own_same {σ : St} {G H G' H' : Hp} {i : Nat} {l : List D} {p : Addr} (s : S I c G H σ ds) (s' : S I c G' H' σ ds) (h : ds[i]? = some (.own l)) (hp : σ[i]? = some (some (.ref p))) :
    ∃ xs, H' p = some (.lst xs) ∧ RpA I.K G' l xs ∧ l.length ≤ Lm := by
  obtain ⟨p', xs, e1, _, _, _, h3, h4, h5⟩ := own_at s' h
  rw [hp] at e1
  simp only [Option.some.injEq, V.ref.injEq] at e1
  subst e1
  exact ⟨xs, h4, h5, h3⟩
theorem rs_append {i : Nat} {x : Str} {l : List D} {p p2 p3 p4 : Pos} (hN : I.N[i]? = some x) (hv : Vis I.sc x) (ho : ds[i]? = some (.own l)) (hl : l.length < Lm) (h : EvE I c e ds P) (hn : ∀ d, P d → A.nx (ds.set i (.own (l ++ [d]))))
    (h1 : (x == ("__debug__" : Str)) = false := by decide) (h2 : (x == ("__classdict__" : Str)) = false := by decide)
    (hsx : ∀ X, Fits I X → starEach [e] X.env = (false, eval e X.env) :: starEach [] X.env := by intros; rfl) (hline : (p2.endLine == p3.line) = true := by rfl)
    (hfew : ∀ X, Fits I X → ((((backTo p3 (starEach [e] X.env)).all fun x => !x.fst) && (backToKw p3 (keywordEach [] X.env)).all fun x => x.fst.isSome) && decide (([e].length + ([] : List Keyword).length + if ([] : List Keyword).isEmpty = true then 0 else 1) < 30)) = true := by intros; rfl) :
    RunS I c (.Expr (.Call (.Attribute (.Name x p) ("append" : Str) p2) [e] [] p3) p4) ds A := fun X F σ G H E s k => by
  have go : PE X (.Call (.Attribute (.Name x p) ("append" : Str) p2) [e] [] p3) _ := pe_bm PySem.F.plainAttrs_list PySem.F.slot_list_append PySem.F.type_list_append mt_append (pe_var (i := i) (by rw [F.N]; exact hN) (by rw [F.sc]; exact hv) h1 h2) (pa_cons (pe_w (e := e)) pa_nil (hsx X F)) (hfew := hfew X F) (hline := hline) (hs := hsx X F)
  refine w_ps (ps_expr go) ?_
  obtain ⟨q, xs, e1, h0, h3, h4, h5, h6, h7⟩ := own_at s ho
  refine ⟨.ref q, e1, .inl ⟨rfl, xs, SqL.of h6⟩, h X F σ G H s _ fun v G1 H1 d x1 s1 r1 p1 => ?_⟩
  obtain ⟨ys, g1, g2, g3⟩ := own_same s s1 ho e1
  refine ⟨q, ys, v, rfl, rfl, g1, by rw [g2.length]; exact Lm_lt (Nat.le_of_lt hl), ?_⟩
  exact k.nx σ G1 _ _ x1.g (own_put s1 ho e1 (g2.append (.cons r1 .nil)) (by rw [List.length_append]; exact hl)) (hn d p1)
theorem rs_setO {i : Nat} {x : Str} {l : List D} {e2 : Expr} {j : Int} {p p2 : Pos} (hN : I.N[i]? = some x) (hv : Vis I.sc x) (ho : ds[i]? = some (.own l)) (h : EvE I c e ds P) (hi : EvE I c e2 ds (· = .int j)) {n : Nat} (hj : ixN l.length j = some n) (hn : ∀ d, P d → A.nx (ds.set i (.own (l.set n d))))
    (h1 : (x == ("__debug__" : Str)) = false := by decide) (h2 : (x == ("__classdict__" : Str)) = false := by decide)
    (ha : ∀ X, Fits I X → ∀ v, assign (.Subscript (.Name x p) e2 p2) X.env v = (do
      let ov ← holding [v] (eval (.Name x p) X.env)
      let iv ← holding [v, ov] (eval e2 X.env)
      standAt p2
      holding [v, ov, iv] (setItem ov iv v)
      release [v, ov, iv] []) := by intros; rfl)
    (hs : ∀ X, Fits I X → swapsWithSole [.Subscript (.Name x p) e2 p2] e pos.line X.env = pure false := by intros; rfl) (hw : ∀ X, Fits I X → swappedStores [.Subscript (.Name x p) e2 p2] e X.env = pure none := by intros; rfl) :
    RunS I c (.Assign [.Subscript (.Name x p) e2 p2] e pos) ds A := fun X F σ G H E s k => by
  refine w_ps (ps_asg pe_w (pg_sub (pe_var (i := i) (by rw [F.N]; exact hN) (by rw [F.sc]; exact hv) h1 h2) (pe_w (e := e2)) set_list (ha X F)) (hs X F) (hw X F)) ?_
  refine h X F σ G H s _ fun v G1 H1 d x1 s1 r1 p1 => ?_
  obtain ⟨q, xs, e1, h0, h3, h4, h5, h6, h7⟩ := own_at s1 ho
  refine ⟨.ref q, e1, hi X F σ G1 H1 s1 _ fun w G2 H2 d2 x2 s2 r2 p2 => ?_⟩
  subst p2
  obtain ⟨ys, g1, g2, g3⟩ := own_same s1 s2 ho e1
  refine ⟨q, ys, j, n, rfl, r2.int', g1, by rw [g2.length]; exact hj, ?_⟩
  exact k.nx σ G2 _ _ (x1.g.trans x2.g) (own_put s2 ho e1 (g2.set n (r1.mono x2.g)) (by rw [List.length_set]; exact g3)) (hn d p1)

/-! reading an owned list: its length, its items -/
theorem ev_ixO {i : Nat} {x : Str} {l : List D} {e2 : Expr} {j : Int} {p : Pos} (hN : I.N[i]? = some x) (hv : Vis I.sc x) (ho : ds[i]? = some (.own l)) (hi : EvE I c e2 ds (· = .int j)) (hj : atI l j = some d)
    (h1 : (x == ("__debug__" : Str)) = false := by decide) (h2 : (x == ("__classdict__" : Str)) = false := by decide) (hs : PlainIx e2 := by exact fun _ _ => rfl) : EvE I c (.Subscript (.Name x p) e2 pos) ds (· = d) := fun X F σ G H s Q k => by
  refine w_pe (pe_ix ix_list (pe_var (i := i) (by rw [F.N]; exact hN) (by rw [F.sc]; exact hv) h1 h2) pe_w hs) ?_
  obtain ⟨q, xs, e1, h0, h3, h4, h5, h6, h7⟩ := own_at s ho
  refine ⟨.ref q, e1, hi X F σ G H s _ fun w G2 H2 d2 x2 s2 r2 p2 => ?_⟩
  subst p2
  obtain ⟨ys, g1, g2, g3⟩ := own_same s s2 ho e1
  obtain ⟨v, k1, k2⟩ := g2.atI hj
  exact ⟨q, ys, j, v, rfl, r2.int', SqL.of g1, k1, (k.mono x2).now s2 k2 rfl⟩
theorem ev_lenO {i : Nat} {x : Str} {l : List D} {p p2 : Pos} (hg : I.sc.names.lookup ("len" : Str) = some .globalImplicit) (hm : I.mg "len" = none) (hN : I.N[i]? = some x) (hv : Vis I.sc x) (ho : ds[i]? = some (.own l))
    (h1 : (x == ("__debug__" : Str)) = false := by decide) (h2 : (x == ("__classdict__" : Str)) = false := by decide) : EvE I c (.Call (.Name "len" p) [.Name x p2] [] pos) ds (· = .int (l.length : Nat)) := fun X F σ G H s Q k => by
  refine w_pe (pe_callB call_len (by show X.env.scope.names.lookup _ = _; rw [F.sc]; exact hg) (by rw [F.mg]; exact hm) PySem.boot_len (pa_cons (pe_var (i := i) (by rw [F.N]; exact hN) (by rw [F.sc]; exact hv) h1 h2) pa_nil)) ?_
  obtain ⟨q, xs, e1, h0, h3, h4, h5, h6, h7⟩ := own_at s ho
  exact ⟨.ref q, e1, .ref q, l.length, rfl, .inl ⟨xs, SqL.of h6, h7.length.symm⟩, k.now s .int rfl⟩

/-! ### targets -/
def setDs (ds : List SD) (as : List (Nat × D)) : List SD := as.foldl (fun ds p => ds.set p.1 (.dat p.2)) ds
theorem wipe_set {σ : St} {i : Nat} {x : Option V} : ∀ {vs : List Nat}, i ∈ vs → wipe (σ.set i x) vs = wipe σ vs := by
  have key : ∀ vs : List Nat, wipe (σ.set i x) vs = if i ∈ vs then wipe σ vs else (wipe σ vs).set i x := by
    intro vs
    induction vs with
    | nil => simp [wipe]
    | cons v vs ih =>
      simp only [wipe, ih]
      by_cases h : v = i
      · subst h
        by_cases h2 : v ∈ vs
        · simp [h2]
        · simp [h2]
      · by_cases h2 : i ∈ vs
        · simp [h2]
        · have h3 : i ∉ v :: vs := by simp [h2]; exact fun z => h z.symm
          rw [if_neg h2, if_neg h3, List.set_comm _ _ (Ne.symm h)]
  intro vs h
  rw [key, if_pos h]
theorem NoOwn.set {σ : St} {ds : List SD} {p : Addr} (h : NoOwn σ ds p) {i : Nat} {v : V} {d : D} : NoOwn (σ.set i (some v)) (ds.set i (.dat d)) p := by
  intro j l hj
  by_cases e : j = i
  · subst e
    rcases Nat.lt_or_ge j ds.length with h0 | h0
    · rw [List.getElem?_set_self h0] at hj; cases hj
    · rw [List.getElem?_eq_none (by simp; exact h0)] at hj; cases hj
  · rw [List.getElem?_set_ne (Ne.symm e)] at *; exact h j l hj

def TgE (I : Inf) (tg : Expr) (asg : D → List (Nat × D) → Prop) : Prop := ∃ g, (∀ X, Fits I X → PG X tg g) ∧
  ∀ (c : Ct) (σ : St) (G H : Hp) (ds : List SD) (v : V) (d : D) (as : List (Nat × D)), S I c G H σ ds → Rp I.K G d v → asg d as → ∀ Q : St → Hp → Prop,
    (∀ σ2, S I c G H σ2 (setDs ds as) → (∀ vs, (∀ q ∈ as, q.1 ∈ vs) → wipe σ2 vs = wipe σ vs) → (∀ p, NoOwn σ ds p → NoOwn σ2 (setDs ds as) p) → Q σ2 H) → g v σ H Q
theorem tg_name {i : Nat} {x : Str} {p : Pos} (hx : Sto I i x) : TgE I (.Name x p) (fun d as => as = [(i, d)]) :=
  ⟨_, fun X F => pg_name (i := i) (by rw [F.N]; exact F.nd) (by rw [F.N]; exact hx.at_) (by rw [F.sc]; exact hx.loc) (hx.fn F), fun c σ G H ds v d as s r ha Q k => by
    subst ha
    exact k _ (State.set s (i := i) (sd := .dat d) rfl ⟨v, rfl, r⟩) (fun vs hv => wipe_set (hv (i, d) (by simp))) (fun p h => h.set)⟩
theorem tg_two {i j : Nat} {x y : Str} {p1 p2 p : Pos} {kk : Nat} (hx : Sto I i x) (hy : Sto I j y) : TgE I (.Tuple [.Name x p1, .Name y p2] kk p) (fun d as => ∃ d1 d2, d = .tuple [d1, d2] ∧ as = [(i, d1), (j, d2)]) :=
  ⟨gTup I.K 2 (gCons (gName i) (gCons (gName j) gNil)), fun X F => F.K ▸ pg_tup F.calm (pgs_cons (pg_name (i := i) (by rw [F.N]; exact F.nd) (by rw [F.N]; exact hx.at_) (by rw [F.sc]; exact hx.loc) (hx.fn F)) (pgs_cons (pg_name (i := j) (by rw [F.N]; exact F.nd) (by rw [F.N]; exact hy.at_) (by rw [F.sc]; exact hy.loc) (hy.fn F)) pgs_nil)),
    fun c σ G H ds v d as s r ha Q k => by
    obtain ⟨d1, d2, rfl, rfl⟩ := ha
    obtain ⟨a, xs, rfl, hq, _, ra⟩ := r.tup'
    obtain ⟨v1, v2, rfl, r1, r2⟩ := rpa2 ra
    have s1 := State.set s (i := i) (sd := .dat d1) rfl ⟨v1, rfl, r1⟩
    have s2 := State.set s1 (i := j) (sd := .dat d2) rfl ⟨v2, rfl, r2⟩
    refine ⟨a, [v1, v2], rfl, ex_t s.ex hq, rfl, v1, [v2], rfl, v2, [], rfl, rfl, ?_⟩
    exact k _ s2 (fun vs hv => (wipe_set (hv (j, d2) (by simp))).trans (wipe_set (hv (i, d1) (by simp)))) (fun p h => h.set.set)⟩
theorem tg_three {i j m : Nat} {x y z : Str} {p1 p2 p3 p : Pos} {kk : Nat} (hx : Sto I i x) (hy : Sto I j y) (hz : Sto I m z) : TgE I (.Tuple [.Name x p1, .Name y p2, .Name z p3] kk p) (fun d as => ∃ d1 d2 d3, d = .tuple [d1, d2, d3] ∧ as = [(i, d1), (j, d2), (m, d3)]) :=
  ⟨gTup I.K 3 (gCons (gName i) (gCons (gName j) (gCons (gName m) gNil))), fun X F => F.K ▸ pg_tup F.calm (pgs_cons (pg_name (i := i) (by rw [F.N]; exact F.nd) (by rw [F.N]; exact hx.at_) (by rw [F.sc]; exact hx.loc) (hx.fn F)) (pgs_cons (pg_name (i := j) (by rw [F.N]; exact F.nd) (by rw [F.N]; exact hy.at_) (by rw [F.sc]; exact hy.loc) (hy.fn F)) (pgs_cons (pg_name (i := m) (by rw [F.N]; exact F.nd) (by rw [F.N]; exact hz.at_) (by rw [F.sc]; exact hz.loc) (hz.fn F)) pgs_nil))),
    fun c σ G H ds v d as s r ha Q k => by
    obtain ⟨d1, d2, d3, rfl, rfl⟩ := ha
    obtain ⟨a, xs, rfl, hq, _, ra⟩ := r.tup'
    obtain ⟨v1, ws, rfl, r1, ra2⟩ := ra.inv
    obtain ⟨v2, v3, rfl, r2, r3⟩ := rpa2 ra2
    have s1 := State.set s (i := i) (sd := .dat d1) rfl ⟨v1, rfl, r1⟩
    have s2 := State.set s1 (i := j) (sd := .dat d2) rfl ⟨v2, rfl, r2⟩
    have s3 := State.set s2 (i := m) (sd := .dat d3) rfl ⟨v3, rfl, r3⟩
    refine ⟨a, [v1, v2, v3], rfl, ex_t s.ex hq, rfl, v1, [v2, v3], rfl, v2, [v3], rfl, v3, [], rfl, rfl, ?_⟩
    exact k _ s3 (fun vs hv => (wipe_set (hv (m, d3) (by simp))).trans ((wipe_set (hv (j, d2) (by simp))).trans (wipe_set (hv (i, d1) (by simp))))) (fun p h => h.set.set.set)⟩
/-- (a, b) = a tuple -/
theorem rs_tup {tg : Expr} {asg : D → List (Nat × D) → Prop} (ht : TgE I tg asg) (h : EvE I c e ds P) (hn : ∀ d, P d → ∃ as, asg d as ∧ A.nx (setDs ds as))
    (hs : ∀ X, Fits I X → swapsWithSole [tg] e pos.line X.env = pure false := by intros; rfl) (hw : ∀ X, Fits I X → swappedStores [tg] e X.env = pure none := by intros; rfl)
    (h1 : ∀ X, Fits I X → (assignEach [tg] X.env).map (·.2) = [assign tg X.env] := by intros; rfl) : RunS I c (.Assign [tg] e pos) ds A := fun X F σ G H E s k => by
  obtain ⟨g, hg, q⟩ := ht
  refine w_ps (ps_asg pe_w (hg X F) (hs X F) (hw X F) (h1 X F)) (h X F σ G H s _ fun v G1 H1 d x1 s1 r1 p1 => ?_)
  obtain ⟨as, ha, hn⟩ := hn d p1
  exact q c σ G1 H1 ds v d as s1 r1 ha _ fun σ2 s2 _ _ => k.nx σ2 G1 H1 _ x1.g s2 hn

/-! ### what is walked -/
/-- J yields these items one after the other as long as G stands -/
def Yields (K : Frag) (J : It) (G : Hp) (items : List D) : Prop :=
  ∀ (Z : Zone) (G0 H0 : Hp) (σ : St) (ds : List SD) (G1 H : Hp), Ex G G1 → State K Z G0 H0 G1 H σ ds →
    (∀ i d, items[i]? = some d → J.go i H ∧ ∀ x H', J.yld i H x H' → ∃ G2, Gr Z G1 H G2 H' ∧ State K Z G0 H0 G2 H' σ ds ∧ Rp K G2 d x) ∧ J.stop items.length H
def Walk (I : Inf) (c : Ct) (tg iter : Expr) (ds : List SD) (P : List D → Prop) : Prop := ∀ X, Fits I X → ∃ wi, PI X tg iter wi ∧ ∀ σ G H, S I c G H σ ds → ∀ R : It → Hp → Prop,
  (∀ J G' H' items, Gr c.Z G H G' H' → S I c G' H' σ ds → Yields I.K J G' items → P items → R J H') → wi σ H R
theorem yields_list {K : Frag} {a : Addr} {xs : List V} {l : List D} {G : Hp} (h : G a = some (.lst xs)) (r : RpA K G l xs) : Yields K (Itl K a) G l := fun Z G0 H0 σ ds G1 H x s =>
  ⟨fun i d hi => by
    obtain ⟨v, h1, h2⟩ := r.get hi
    have hq : SqL K H a xs := SqL.of (s.ex _ _ (x _ _ h))
    exact ⟨⟨xs, v, hq, h1⟩, fun y H' ⟨e, q⟩ => by
      subst e
      have := q xs hq
      rw [h1] at this; cases this
      exact ⟨G1, Gr.refl, s, h2.mono x⟩⟩, ⟨xs, SqL.of (s.ex _ _ (x _ _ h)), by rw [r.length]; exact Nat.le_refl _⟩⟩
theorem yields_tup {K : Frag} {a : Addr} {xs : List V} {l : List D} {G : Hp} (h : SqT K G a xs) (r : RpA K G l xs) : Yields K (Itt K a) G l := fun Z G0 H0 σ ds G1 H x s =>
  ⟨fun i d hi => by
    obtain ⟨v, h1, h2⟩ := r.get hi
    have hq : SqT K H a xs := ex_t s.ex (ex_t x h)
    exact ⟨⟨xs, v, hq, h1⟩, fun y H' ⟨e, q⟩ => by
      subst e
      have := q xs hq
      rw [h1] at this; cases this
      exact ⟨G1, Gr.refl, s, h2.mono x⟩⟩, ⟨xs, ex_t s.ex (ex_t x h), by rw [r.length]; exact Nat.le_refl _⟩⟩
theorem wk_list {tg : Expr} {l : List D} (h : EvE I c e ds (· = .list l)) : Walk I c tg e ds (· = l) := fun X F =>
  ⟨_, pi_list pe_w, fun σ G H s R k => h X F σ G H s _ fun v G1 H1 d x1 s1 r1 p1 => by
    subst p1
    obtain ⟨a, xs, rfl, h1, h2, h3⟩ := r1.lst'
    refine ⟨a, rfl, ⟨xs, SqL.of (s1.ex _ _ h1)⟩, ?_⟩
    have := k (Itl I.K a) G1 H1 l x1 s1 (yields_list h1 h3) rfl
    rw [F.K]; exact this⟩
theorem wk_tup {tg : Expr} {l : List D} (h : EvE I c e ds (· = .tuple l)) : Walk I c tg e ds (· = l) := fun X F =>
  ⟨_, pi_tup pe_w, fun σ G H s R k => h X F σ G H s _ fun v G1 H1 d x1 s1 r1 p1 => by
    subst p1
    obtain ⟨a, xs, rfl, h1, h2, h3⟩ := r1.tup'
    refine ⟨a, rfl, ⟨xs, by rw [F.K]; exact ex_t s1.ex h1⟩, ?_⟩
    have := k (Itt I.K a) G1 H1 l x1 s1 (yields_tup h1 h3) rfl
    rw [F.K]; exact this⟩
/-- the intsD from lo on, n of them -/
def intsD (lo : Int) (n : Nat) : List D := (List.range n).map fun i => .int (lo + (i : Nat))
theorem intsD_length (lo : Int) (n : Nat) : (intsD lo n).length = n := by simp [intsD]
theorem intsD_get {lo : Int} {n i : Nat} {d : D} (h : (intsD lo n)[i]? = some d) : i < n ∧ d = .int (lo + (i : Nat)) := by
  unfold intsD at h
  rw [List.getElem?_map] at h
  cases e : (List.range n)[i]? with
  | none => rw [e] at h; cases h
  | some j =>
    rw [e] at h
    have hi : i < n := by have := (List.getElem?_eq_some_iff.mp e).1; simpa using this
    rw [List.getElem?_range hi] at e; cases e; cases h
    exact ⟨hi, rfl⟩
theorem yields_intsD {K : Frag} {lo : Int} {n : Nat} {G : Hp} : Yields K (Itr lo n) G (intsD lo n) := fun Z G0 H0 σ ds G1 H x s =>
  ⟨fun i d hi => by
    obtain ⟨h1, rfl⟩ := intsD_get hi
    exact ⟨h1, fun y H' ⟨e, q⟩ => by
      subst e; subst q
      exact ⟨G1, Gr.refl, s, .int⟩⟩, by show n ≤ _; rw [intsD_length]; exact Nat.le_refl _⟩
theorem wk_range1P {tg : Expr} {p : Pos} {q : Int → Prop} (hg : I.sc.names.lookup ("range" : Str) = some .globalImplicit) (hm : I.mg "range" = none) (h : EvE I c e ds (IsI q)) (hq : ∀ n, q n → -(2 ^ 62) ≤ n ∧ n < 2 ^ 62)
    (hs : ∀ X, Fits I X → starEach [e] X.env = [(false, eval e X.env)] := by intros; rfl) : Walk I c tg (.Call (.Name "range" p) [e] [] pos) ds (fun l => ∃ n, q n ∧ l = intsD 0 n.toNat) := fun X F =>
  ⟨_, pi_range1 (by show X.env.scope.names.lookup _ = _; rw [F.sc]; exact hg) (by rw [F.mg]; exact hm) (pa_cons pe_w pa_nil (hs X F)) (hs X F), fun σ G H s R k => h X F σ G H s _ fun v G1 H1 d x1 s1 r1 p1 => by
    obtain ⟨n, rfl, hn⟩ := p1
    rw [r1.int']
    exact ⟨n, rfl, (hq n hn).1, (hq n hn).2, k _ G1 H1 _ x1 s1 yields_intsD ⟨n, hn, rfl⟩⟩⟩
theorem wk_range1 {tg : Expr} {p : Pos} {n : Int} (hg : I.sc.names.lookup ("range" : Str) = some .globalImplicit) (hm : I.mg "range" = none) (h : EvE I c e ds (· = .int n)) (h1 : -(2 ^ 62) ≤ n) (h2 : n < 2 ^ 62)
    (hs : ∀ X, Fits I X → starEach [e] X.env = [(false, eval e X.env)] := by intros; rfl) : Walk I c tg (.Call (.Name "range" p) [e] [] pos) ds (· = intsD 0 n.toNat) := fun X F => by
  obtain ⟨wi, a, b⟩ := wk_range1P (tg := tg) (p := p) (pos := pos) (q := (· = n)) hg hm (h.imp isI) (fun m hm => by rw [hm]; exact ⟨h1, h2⟩) hs X F
  exact ⟨wi, a, fun σ G H s R k => b σ G H s R fun J G' H' items gr s' y hy => k J G' H' items gr s' y (by obtain ⟨m, hm, e⟩ := hy; rw [e, hm])⟩
/-- enumerate of a list -/
def enumL (l : List D) : List D := l.zipIdx.map fun p => .tuple [.int (p.2 : Nat), p.1]
theorem enumL_length (l : List D) : (enumL l).length = l.length := by simp [enumL]
theorem enumL_get {l : List D} {i : Nat} {d : D} (h : (enumL l)[i]? = some d) : ∃ x, l[i]? = some x ∧ d = .tuple [.int (i : Nat), x] := by
  unfold enumL at h
  rw [List.getElem?_map, List.getElem?_zipIdx] at h
  cases e : l[i]? with
  | none => rw [e] at h; cases h
  | some x => rw [e] at h; simp at h; exact ⟨x, rfl, h.symm⟩
theorem State.tupled {K : Frag} {Z : Zone} {G0 H0 G1 H : Hp} {σ : St} {ds : List SD} (s : State K Z G0 H0 G1 H σ ds) {T : Addr} {v1 v2 : V} {d1 d2 : D} (hT : H T = none) (r1 : Rp K G1 d1 v1) (r2 : Rp K G1 d2 v2) :
    ∃ G2, Gr Z G1 H G2 (upd H T (.tup [v1, v2])) ∧ State K Z G0 H0 G2 (upd H T (.tup [v1, v2])) σ ds ∧ Rp K G2 (.tuple [d1, d2]) (.ref T) := by
  obtain ⟨s2, x2⟩ := s.laid (o := .tup [v1, v2]) hT
  exact ⟨_, x2, s2, .tup (SqT.of upd_same) (by show 2 ≤ 100000; decide) (.cons (r1.mono x2.g) (.cons (r2.mono x2.g) .nil))⟩
theorem yields_enum {K : Frag} {a : Addr} {xs : List V} {l : List D} {G : Hp} (h : G a = some (.lst xs)) (r : RpA K G l xs) : Yields K (Ite K a) G (enumL l) := fun Z G0 H0 σ ds G1 H x s =>
  ⟨fun i d hi => by
    obtain ⟨d0, h0, rfl⟩ := enumL_get hi
    obtain ⟨v, h1, h2⟩ := r.get h0
    have hq : SqL K H a xs := SqL.of (s.ex _ _ (x _ _ h))
    exact ⟨⟨xs, v, hq, h1⟩, fun y H' ⟨T, w, e1, hT, e2, q⟩ => by
      subst e1; subst e2
      have := q xs hq
      rw [h1] at this; cases this
      exact State.tupled s hT .int (h2.mono x)⟩, ⟨xs, SqL.of (s.ex _ _ (x _ _ h)), by rw [r.length, enumL_length]; exact Nat.le_refl _⟩⟩
theorem wk_enum {elts : List Expr} {kk : Nat} {tpos p : Pos} {l : List D} (hg : I.sc.names.lookup ("enumerate" : Str) = some .globalImplicit) (hm : I.mg "enumerate" = none) (h : EvE I c e ds (· = .list l))
    (hs : ∀ X, Fits I X → starEach [e] X.env = [(false, eval e X.env)] := by intros; rfl) : Walk I c (.Tuple elts kk tpos) (.Call (.Name "enumerate" p) [e] [] pos) ds (· = enumL l) := fun X F =>
  ⟨_, pi_enum (by show X.env.scope.names.lookup _ = _; rw [F.sc]; exact hg) (by rw [F.mg]; exact hm) (pa_cons pe_w pa_nil (hs X F)) (hs X F), fun σ G H s R k => h X F σ G H s _ fun v G1 H1 d x1 s1 r1 p1 => by
    subst p1
    obtain ⟨a, xs, rfl, h1, h2, h3⟩ := r1.lst'
    have := k (Ite I.K a) G1 H1 _ x1 s1 (yields_enum h1 h3) rfl
    exact ⟨a, xs, rfl, SqL.of (s1.ex _ _ h1), by rw [F.K]; exact this⟩⟩
/-- zip of two lists, of two tuples -/
def zipL (l m : List D) : List D := (l.zip m).map fun p => .tuple [p.1, p.2]
theorem zipL_get {l m : List D} {i : Nat} {d : D} (h : (zipL l m)[i]? = some d) : ∃ x y, l[i]? = some x ∧ m[i]? = some y ∧ d = .tuple [x, y] := by
  unfold zipL at h
  rw [List.getElem?_map] at h
  cases e : (l.zip m)[i]? with
  | none => rw [e] at h; cases h
  | some p =>
    rw [e] at h
    have := List.getElem?_zip_eq_some.mp e
    exact ⟨p.1, p.2, this.1, this.2, by simpa using h.symm⟩
theorem yields_zip {K : Frag} {a b : Addr} {xs ys : List V} {l m : List D} {G : Hp} (h : G a = some (.lst xs)) (r : RpA K G l xs) (h' : G b = some (.lst ys)) (r' : RpA K G m ys) : Yields K (Itz K a b) G (zipL l m) := fun Z G0 H0 σ ds G1 H x s => by
  have hq : SqL K H a xs := SqL.of (s.ex _ _ (x _ _ h))
  have hq' : SqL K H b ys := SqL.of (s.ex _ _ (x _ _ h'))
  refine ⟨fun i d hi => ?_, ⟨xs, ys, hq, hq', ?_⟩⟩
  · obtain ⟨d1, d2, g1, g2, rfl⟩ := zipL_get hi
    obtain ⟨v, h1, h2⟩ := r.get g1
    obtain ⟨w, h3, h4⟩ := r'.get g2
    exact ⟨⟨xs, ys, v, w, hq, hq', h1, h3⟩, fun y H' ⟨T, w1, w2, e1, hT, e2, q, q'⟩ => by
      subst e1; subst e2
      have t1 := q xs hq
      have t2 := q' ys hq'
      rw [h1] at t1; cases t1
      rw [h3] at t2; cases t2
      exact State.tupled s hT (h2.mono x) (h4.mono x)⟩
  · rw [r.length, r'.length]; unfold zipL; rw [List.length_map, List.length_zip]; omega
theorem yields_zipT {K : Frag} {a b : Addr} {xs ys : List V} {l m : List D} {G : Hp} (h : SqT K G a xs) (r : RpA K G l xs) (h' : SqT K G b ys) (r' : RpA K G m ys) : Yields K (RZ.ItzT K a b) G (zipL l m) := fun Z G0 H0 σ ds G1 H x s => by
  have hq : SqT K H a xs := ex_t s.ex (ex_t x h)
  have hq' : SqT K H b ys := ex_t s.ex (ex_t x h')
  refine ⟨fun i d hi => ?_, ⟨xs, ys, hq, hq', ?_⟩⟩
  · obtain ⟨d1, d2, g1, g2, rfl⟩ := zipL_get hi
    obtain ⟨v, h1, h2⟩ := r.get g1
    obtain ⟨w, h3, h4⟩ := r'.get g2
    exact ⟨⟨xs, ys, v, w, hq, hq', h1, h3⟩, fun y H' ⟨T, w1, w2, e1, hT, e2, q, q'⟩ => by
      subst e1; subst e2
      have t1 := q xs hq
      have t2 := q' ys hq'
      rw [h1] at t1; cases t1
      rw [h3] at t2; cases t2
      exact State.tupled s hT (h2.mono x) (h4.mono x)⟩
  · rw [r.length, r'.length]; unfold zipL; rw [List.length_map, List.length_zip]; omega
theorem wk_zip {elts : List Expr} {e2 : Expr} {kk : Nat} {tpos p : Pos} {l m : List D} {x y : D} (hg : I.sc.names.lookup ("zip" : Str) = some .globalImplicit) (hm : I.mg "zip" = none) (h : EvE I c e ds (· = x)) (h' : EvE I c e2 ds (· = y))
    (hxy : (x = .list l ∧ y = .list m) ∨ (x = .tuple l ∧ y = .tuple m))
    (hs : ∀ X, Fits I X → starEach [e, e2] X.env = (false, eval e X.env) :: starEach [e2] X.env := by intros; rfl) (hs2 : ∀ X, Fits I X → starEach [e2] X.env = (false, eval e2 X.env) :: starEach [] X.env := by intros; rfl) (hpl : ∀ X, Fits I X → (backTo pos (starEach [e2] X.env)).any (·.1) = false := by intros; rfl) :
    Walk I c (.Tuple elts kk tpos) (.Call (.Name "zip" p) [e, e2] [] pos) ds (· = zipL l m) := fun X F =>
  ⟨_, RZ.pi_zipA (by show X.env.scope.names.lookup _ = _; rw [F.sc]; exact hg) (by rw [F.mg]; exact hm) (pa_cons pe_w (pa_cons pe_w pa_nil (hs2 X F)) (hs X F)) (hs X F) (hpl X F), fun σ G H s R k => h X F σ G H s _ fun v G1 H1 d x1 s1 r1 p1 => h' X F σ G1 H1 s1 _ fun v2 G2 H2 d2 x2 s2 r2 p2 => by
    subst p1; subst p2
    have r1' := r1.mono x2.g
    rw [F.K]
    rcases hxy with ⟨rfl, rfl⟩ | ⟨rfl, rfl⟩
    · obtain ⟨a, xs, rfl, h1, _, h3⟩ := r1'.lst'
      obtain ⟨b, ys, rfl, g1, _, g3⟩ := r2.lst'
      exact ⟨a, b, xs, ys, rfl, .inl ⟨SqL.of (s2.ex _ _ h1), SqL.of (s2.ex _ _ g1), k _ G2 H2 _ (x1.trans x2) s2 (yields_zip h1 h3 g1 g3) rfl⟩⟩
    · obtain ⟨a, xs, rfl, h1, _, h3⟩ := r1'.tup'
      obtain ⟨b, ys, rfl, g1, _, g3⟩ := r2.tup'
      exact ⟨a, b, xs, ys, rfl, .inr ⟨ex_t s2.ex h1, ex_t s2.ex g1, k _ G2 H2 _ (x1.trans x2) s2 (yields_zipT h1 h3 g1 g3) rfl⟩⟩⟩

/-! ### for -/
theorem rs_forP {tg iter : Expr} {body : List Stmt} {asg : D → List (Nat × D) → Prop} {PL : List D → Prop} (hw : Walk I c tg iter ds PL) (ht : TgE I tg asg)
    (hW : ∀ items, PL items → ∃ W : Nat → List SD → Prop, W 0 ds ∧ (∀ i d ds', items[i]? = some d → W i ds' → ∃ as, asg d as ∧ Run I c body (setDs ds' as) { A with nx := W (i + 1), ct := W (i + 1), bk := A.nx }) ∧ ∀ ds', W items.length ds' → A.nx ds')
    (hs : ∀ X, Fits I X → ∀ x, foldedSetIterable iter X.env x = pure x := by intros; rfl) : RunS I c (.For tg iter body [] pos) ds A := fun X F σ G H E s k => by
  obtain ⟨wi, hi, qi⟩ := hw X F
  obtain ⟨g, hg, qg⟩ := ht
  refine w_ps (ps_for (by rw [F.xe]; exact PassesOwn.never) F.calm hi (hg X F) (pss_w (sts := body)) (hs X F)) ?_
  refine qi σ G H s _ fun J G1 H1 items x1 s1 y pl => ?_
  obtain ⟨W, h0, hs, hd⟩ := hW items pl
  refine ⟨fun i m σ' H' => m = items.length - i ∧ i ≤ items.length ∧ ∃ G' ds', Ex G1 G' ∧ S I c G' H' σ' ds' ∧ W i ds', ⟨_, rfl, Nat.zero_le _, G1, ds, Ex.refl _, s1, h0⟩, ?_⟩
  rintro i m σ' H' ⟨rfl, hi, G', ds', x', s', w⟩
  obtain ⟨ya, yb⟩ := y c.Z c.G0 c.H0 σ' ds' G' H' x' s'
  by_cases hlt : i < items.length
  · have hd' : items[i]? = some items[i] := by simp [hlt]
    obtain ⟨go, yl⟩ := ya i _ hd'
    refine .inr ⟨go, fun σ2 H2 => ∃ G2 ds2, Ex G1 G2 ∧ S I c G2 H2 σ2 ds2 ∧ W (i + 1) ds2, fun σ2 H2 ⟨G2, ds2, a1, a2, a3⟩ => ⟨items.length - (i + 1), by omega, rfl, hlt, G2, ds2, a1, a2, a3⟩, fun v H2 hy => ?_⟩
    obtain ⟨G2, gr, s2, r2⟩ := yl v H2 hy
    obtain ⟨as, ha, run⟩ := hs i _ ds' hd' w
    refine qg c σ' G2 H2 ds' v _ as s2 r2 ha _ fun σ3 s3 _ _ => ?_
    have xx : Ex G1 G2 := x'.trans gr.g
    have kk := k.mono (x1.g.trans xx)
    exact run X F σ3 G2 H2 _ s3 ⟨fun σ4 G4 H4 ds4 e4 s4 m4 => ⟨G4, ds4, xx.trans e4, s4, m4⟩, fun σ4 G4 H4 ds4 e4 s4 m4 => kk.nx σ4 G4 H4 ds4 e4 s4 m4, fun σ4 G4 H4 ds4 e4 s4 m4 => ⟨G4, ds4, xx.trans e4, s4, m4⟩, kk.rt, kk.ro, kk.r3⟩
  · have e : i = items.length := by omega
    subst e
    exact .inl ⟨yb, k.nx σ' G' H' ds' (x1.g.trans x') s' (hd ds' w)⟩
theorem rs_for {tg iter : Expr} {body : List Stmt} {asg : D → List (Nat × D) → Prop} {items : List D} (hw : Walk I c tg iter ds (· = items)) (ht : TgE I tg asg) (W : Nat → List SD → Prop) (h0 : W 0 ds)
    (hb : ∀ i d ds', items[i]? = some d → W i ds' → ∃ as, asg d as ∧ Run I c body (setDs ds' as) { A with nx := W (i + 1), ct := W (i + 1), bk := A.nx }) (hd : ∀ ds', W items.length ds' → A.nx ds')
    (hs : ∀ X, Fits I X → ∀ x, foldedSetIterable iter X.env x = pure x := by intros; rfl) : RunS I c (.For tg iter body [] pos) ds A :=
  rs_forP hw ht (fun l e => ⟨W, h0, by rw [e]; exact hb, by rw [e]; exact hd⟩) hs

/-! ### while -/
theorem rs_while {t : Expr} {body : List Stmt} (W : Nat → List SD → Prop) (m0 : Nat) (h0 : W m0 ds)
    (hb : ∀ m ds', W m ds' → ∃ b : Bool, EvT I c t ds' (· = b) ∧ (b = true → Run I c body ds' { A with nx := fun d => ∃ m', m' < m ∧ W m' d, ct := fun d => ∃ m', m' < m ∧ W m' d, bk := A.nx }) ∧ (b = false → A.nx ds')) :
    RunS I c (.While t body [] pos) ds A := fun X F σ G H E s k => by
  refine w_ps (ps_while (by rw [F.xe]; exact PassesOwn.never) pt_w (pss_w (sts := body))) ?_
  refine ⟨fun m σ' H' => ∃ G' ds', Ex G G' ∧ S I c G' H' σ' ds' ∧ W m ds', ⟨m0, G, ds, Ex.refl _, s, h0⟩, ?_⟩
  rintro m σ' H' ⟨G', ds', x', s', w⟩
  obtain ⟨b, et, run, fin⟩ := hb m ds' w
  refine et X F σ' G' H' s' _ fun b' G2 H2 x2 s2 p2 => ?_
  subst p2
  cases b' with
  | true =>
    refine iteT ⟨fun σ4 H4 => ∃ m', m' < m ∧ ∃ G4 ds4, Ex G G4 ∧ S I c G4 H4 σ4 ds4 ∧ W m' ds4, fun σ4 H4 h => h, ?_⟩
    have xx := x'.trans x2.g
    have kk := k.mono xx
    exact run rfl X F σ' G2 H2 _ s2 ⟨fun σ4 G4 H4 ds4 e4 s4 ⟨m', hm, w'⟩ => ⟨m', hm, G4, ds4, xx.trans e4, s4, w'⟩, fun σ4 G4 H4 ds4 e4 s4 m4 => kk.nx σ4 G4 H4 ds4 e4 s4 m4, fun σ4 G4 H4 ds4 e4 s4 ⟨m', hm, w'⟩ => ⟨m', hm, G4, ds4, xx.trans e4, s4, w'⟩, kk.rt, kk.ro, kk.r3⟩
  | false => exact iteF (k.nx σ' G2 H2 ds' (x'.trans x2.g) s2 (fin rfl))
end
end Dl


set_option Elab.async false
set_option linter.all false
namespace Dl
open PySem L2

def Inf.blk (I : Inf) (scope : Scope) : Inf := { I with sc := relS scope I.sc, fnc := fun x => scope.names.lookup x == some .cell, gd := false }
theorem Fits.blk {I : Inf} {X : Cx} (F : Fits I X) {scope : Scope} (hk : scope.kind = .function) (s : Shared) (H : Hp) (C : Addr) (cl : List (Str × Addr)) (fp : List Addr) :
    Fits (I.blk scope) (X.blk s H scope (compEnvC scope cl C X.env) fp) where
  gd := fun h => (by cases h)
  prog := F.prog
  w := F.w
  K := F.K
  mg := F.mg
  base := F.base
  N := F.N
  sc := by show relS scope X.env.scope = relS scope I.sc; rw [F.sc]
  calm := F.calm
  room := F.room
  xe := rfl
  fn := fun x h => h
  nd := F.nd
  kind := hk

/-- one reading for all that fits -/
def uE (I : Inf) (e : Expr) : TE := fun σ H Q => ∀ Y, Fits I Y → wE Y e σ H Q
theorem pe_u {I : Inf} {Y : Cx} (F : Fits I Y) {e : Expr} : PE Y e (uE I e) := ⟨fun pins s _ _ _ J h => h Y F pins s J⟩
def wI (X : Cx) (ifs : List Expr) : TT := fun σ H Q => ∀ (pins : List (Addr × Obj)) (s : Shared), Inv X pins σ H s →
    wpAny (model X.prog X.w) X.A (forIn ifs true fun c r => if r = true then do let ok ← isTrue c X.env (eval c X.env); pure (ForInStep.yield ok) else pure (ForInStep.yield r)) (TP X pins σ Q) X.xe s
def uI (I : Inf) (ifs : List Expr) : TT := fun σ H Q => ∀ Y, Fits I Y → wI Y ifs σ H Q
theorem pts_u {I : Inf} {Y : Cx} (F : Fits I Y) {ifs : List Expr} : PTs Y ifs (uI I ifs) := ⟨fun pins s _ _ _ J h => h Y F pins s J⟩
/-- a clause's tests come to b -/
def EvIs (I : Inf) (c : Ct) (ifs : List Expr) (ds : List SD) (b : Bool) : Prop :=
  ∀ X, Fits I X → ∀ σ G H, S I c G H σ ds → ∀ Q : Bool → Hp → Prop, (∀ G' H', Gr c.Z G H G' H' → S I c G' H' σ ds → Q b H') → wI X ifs σ H Q
section
variable {I : Inf} {c : Ct} {ds : List SD} {e : Expr} {P : D → Prop} {pos : Pos} {d : D}
theorem ei_nil : EvIs I c [] ds true := fun X F σ G H s Q k pins sh J => (pts_nil (X := X)).run pins sh σ H Q J (k G H Gr.refl s)
theorem ei_one {b : Bool} (h : EvT I c e ds (· = b)) : EvIs I c [e] ds b := fun X F σ G H s Q k pins sh J =>
  (pts_one (pt_w (X := X) (e := e))).run pins sh σ H Q J (h X F σ G H s _ fun b' G' H' x s' p => by subst p; exact k G' H' x s')

def wipeDs (ds : List SD) : List Nat → List SD
  | [] => ds
  | v :: vs => (wipeDs ds vs).set v .un
theorem State.unset {K : Frag} {Z : Zone} {G0 H0 G H : Hp} {σ : St} {ds : List SD} (s : State K Z G0 H0 G H σ ds) (i : Nat) : State K Z G0 H0 G H (σ.set i none) (ds.set i .un) := by
  refine ⟨s.ex, s.exg, s.nw, s.exm, s.deck, by simp [s.len], s.giv, fun j sd' h => ?_, fun j k d1 d2 p hjk h1 h2 h3 => ?_⟩
  · by_cases e : j = i
    · subst e
      rcases Nat.lt_or_ge j ds.length with h0 | h0
      · rw [List.getElem?_set_self h0] at h; cases h; trivial
      · rw [List.getElem?_eq_none (by simp; exact h0)] at h; cases h
    · rw [List.getElem?_set_ne (Ne.symm e)] at *; exact s.slots j sd' h
  · have g : ∀ {j : Nat} {d1 : List D}, (ds.set i .un)[j]? = some (.own d1) → j ≠ i ∧ ds[j]? = some (.own d1) := by
      intro j d1 h
      by_cases e : j = i
      · subst e
        rcases Nat.lt_or_ge j ds.length with h0 | h0
        · rw [List.getElem?_set_self h0] at h; cases h
        · rw [List.getElem?_eq_none (by simp; exact h0)] at h; cases h
      · rw [List.getElem?_set_ne (Ne.symm e)] at h; exact ⟨e, h⟩
    have a := g h1
    have b := g h2
    rw [List.getElem?_set_ne (Ne.symm a.1)] at h3
    rw [List.getElem?_set_ne (Ne.symm b.1)]
    exact s.dist j k d1 d2 p hjk a.2 b.2 h3
theorem State.wipe {K : Frag} {Z : Zone} {G0 H0 G H : Hp} {σ : St} {ds : List SD} (s : State K Z G0 H0 G H σ ds) : ∀ vs : List Nat, State K Z G0 H0 G H (L2.wipe σ vs) (wipeDs ds vs)
  | [] => s
  | v :: vs => (State.wipe s vs).unset v
theorem NoOwn.unset {σ : St} {ds : List SD} {p : Addr} (h : NoOwn σ ds p) (i : Nat) : NoOwn (σ.set i none) (ds.set i .un) p := by
  intro j l hj
  by_cases e : j = i
  · subst e
    rcases Nat.lt_or_ge j ds.length with h0 | h0
    · rw [List.getElem?_set_self h0] at hj; cases hj
    · rw [List.getElem?_eq_none (by simp; exact h0)] at hj; cases hj
  · rw [List.getElem?_set_ne (Ne.symm e)] at *; exact h j l hj
theorem NoOwn.wipe {σ : St} {ds : List SD} {p : Addr} (h : NoOwn σ ds p) : ∀ vs : List Nat, NoOwn (L2.wipe σ vs) (wipeDs ds vs) p
  | [] => h
  | v :: vs => (NoOwn.wipe h vs).unset v

/-- what a comprehension has made of the items so far: the values of those that are kept -/
inductive Made (keep : D → Bool) (R : D → D → Prop) : List D → List D → Prop where
  | nil : Made keep R [] []
  | skip {items l d} : Made keep R items l → keep d = false → Made keep R (items ++ [d]) l
  | put {items l d y} : Made keep R items l → keep d = true → R d y → Made keep R (items ++ [d]) (l ++ [y])
theorem Made.length {keep : D → Bool} {R : D → D → Prop} {items l : List D} (h : Made keep R items l) : l.length ≤ items.length := by
  induction h with
  | nil => exact Nat.le_refl _
  | skip _ _ ih => simp; omega
  | put _ _ _ ih => simp; omega
theorem Made.all {R : D → D → Prop} {items l : List D} (h : Made (fun _ => true) R items l) : l.length = items.length ∧ ∀ (i : Nat) x y, items[i]? = some x → l[i]? = some y → R x y := by
  induction h with
  | nil => exact ⟨rfl, fun i x y h => by simp at h⟩
  | skip _ h _ => cases h
  | @put items l d y _ _ r ih =>
    refine ⟨by simp [ih.1], fun i x z hx hz => ?_⟩
    by_cases e : i < items.length
    · rw [List.getElem?_append_left e] at hx
      rw [List.getElem?_append_left (by omega)] at hz
      exact ih.2 i x z hx hz
    · rw [List.getElem?_append_right (by omega)] at hx
      rw [List.getElem?_append_right (by omega)] at hz
      have h1 := (List.getElem?_eq_some_iff.mp hx).1
      simp at h1
      have e2 : i = items.length := by omega
      subst e2
      rw [show items.length - items.length = 0 from by omega] at hx
      rw [show items.length - l.length = 0 from by omega] at hz
      simp at hx hz
      subst hx; subst hz; exact r
theorem Made.map {f : D → D} {items l : List D} (h : Made (fun _ => true) (fun x y => y = f x) items l) : l = items.map f := by
  induction h with
  | nil => rfl
  | skip _ h _ => cases h
  | put _ _ r ih => rw [List.map_append, ih, r]; rfl
theorem Made.filterMap {keep : D → Bool} {f : D → D} {items l : List D} (h : Made keep (fun x y => y = f x) items l) : l = (items.filter keep).map f := by
  induction h with
  | nil => rfl
  | skip _ h ih => rw [List.filter_append, ih]; simp [h]
  | put _ h r ih => rw [List.filter_append, ih, r]; simp [h]
theorem Made.fold {keep : D → Bool} {R : D → D → Prop} {Q : List D → List D → Prop} {items l : List D} (h : Made keep R items l) (h0 : Q [] []) (h1 : ∀ is l d, Q is l → keep d = false → Q (is ++ [d]) l)
    (h2 : ∀ is l d y, Q is l → keep d = true → R d y → Q (is ++ [d]) (l ++ [y])) : Q items l := by
  induction h with
  | nil => exact h0
  | skip _ h ih => exact h1 _ _ _ ih h
  | put _ h r ih => exact h2 _ _ _ _ ih h r

/-- the comprehension's own reading -/
theorem ef_lc_core {elt tg iter : Expr} {ifs : List Expr} {scope : Scope} (own : List (Str × Nat)) {asg : D → List (Nat × D) → Prop} {PL : List D → Prop} {keep : D → Bool} {R : D → D → Prop} {wi : TI} {g : TG}
    (hb : blkC I.N I.sc scope own = true)
    {X : Cx} (hi : PI X tg iter wi)
    (qi : ∀ σ G H, S I c G H σ ds → ∀ R : It → Hp → Prop, (∀ J G' H' items, Gr c.Z G H G' H' → S I c G' H' σ ds → Yields I.K J G' items → PL items → R J H') → wi σ H R)
    (hg : ∀ X, Fits (I.blk scope) X → PG X tg g)
    (qg : ∀ (c : Ct) (σ : St) (G H : Hp) (ds : List SD) (v : V) (d : D) (as : List (Nat × D)), S (I.blk scope) c G H σ ds → Rp (I.blk scope).K G d v → asg d as → ∀ Q : St → Hp → Prop,
      (∀ σ2, S (I.blk scope) c G H σ2 (setDs ds as) → (∀ vs, (∀ q ∈ as, q.1 ∈ vs) → L2.wipe σ2 vs = L2.wipe σ vs) → (∀ p, NoOwn σ ds p → NoOwn σ2 (setDs ds as) p) → Q σ2 H) → g v σ H Q)
    (hl : ∀ items, PL items → items.length ≤ Lm)
    (he : ∀ items, PL items → ∀ d ∈ items, ∃ as, asg d as ∧ (∀ q ∈ as, q.1 ∈ (own.map (fun x : Str × Nat => x.2))) ∧ EvIs (I.blk scope) c ifs (setDs (wipeDs ds (own.map (fun x : Str × Nat => x.2))) as) (keep d) ∧ (keep d = true → EvE (I.blk scope) c elt (setDs (wipeDs ds (own.map (fun x : Str × Nat => x.2))) as) (R d)))
    (X : Cx) (F : Fits I X) (σ : St) (G H : Hp) (s : S I c G H σ ds) (Q : VK)
    (k : ∀ p xs G' H' l, Gr c.Z G H G' H' → S I c G' H' σ ds → H p = none → G' p = none → ¬ inDeck c.Z p → l.length ≤ Lm → H' p = some (.lst xs) → RpA I.K G' l xs → (∃ items, PL items ∧ Made keep R items l) → Q (.ref p) H') :
    tLc wi g (uI (I.blk scope) ifs) (uE (I.blk scope) elt) (own.map (fun x : Str × Nat => x.2)) σ H Q := by
  refine qi σ G H s _ fun J G1 H1 items x1 s1 y pl => fun L nL => ?_
  have llen := hl items pl
  have hL0 : H L = none := by
    cases e : H L with
    | none => rfl
    | some o => exact absurd nL (x1.dom L (by rw [e]; exact fun z => nomatch z))
  have no : NoOwn σ ds L := s1.noOwn nL
  have ndk : ¬ inDeck c.Z L := S.ndeck s1 nL
  have h00 : c.H0 L = none := S.h0none s1 nL
  have gL : G1 L = none := S.gnone s1 nL
  -- between two turns
  refine ⟨fun i m H' => m = items.length - i ∧ i ≤ items.length ∧ ∃ G' acc l, Gr c.Z G1 H1 G' H' ∧ S I c G' H' σ ds ∧ G' L = none ∧ H' L = some (.lst acc) ∧ RpA I.K G' l acc ∧ Made keep R (items.take i) l,
    ⟨items.length, rfl, Nat.zero_le _, G1, [], [], ⟨Ex.refl _, fun a o h z => by rw [upd_ne (ne_of_none h nL)]; exact h, fun p h => .inl h, fun p h z => ?_⟩, State.aside s1 nL, gL, upd_same, .nil, by simp; exact .nil⟩, ?_⟩
  · by_cases e : p = L
    · rw [e, upd_same] at z; cases z
    · rw [upd_ne e] at z; exact h z
  rintro i m H' ⟨rfl, hile, G', acc, l, gr, s', hgL, hHL, ra, made⟩
  obtain ⟨ya, yb⟩ := y c.Z c.G0 c.H0 σ ds G' H' gr.g s'
  by_cases hlt : i < items.length
  · have hd' : items[i]? = some items[i] := by simp [hlt]
    obtain ⟨go, yl⟩ := ya i _ hd'
    refine .inr ⟨go, fun H2 => ∃ G' acc l, Gr c.Z G1 H1 G' H2 ∧ S I c G' H2 σ ds ∧ G' L = none ∧ H2 L = some (.lst acc) ∧ RpA I.K G' l acc ∧ Made keep R (items.take (i + 1)) l, fun H2 q => ⟨items.length - (i + 1), by omega, rfl, hlt, q⟩, fun v H2 hy => ?_⟩
    obtain ⟨G2, gr2, s2, r2⟩ := yl v H2 hy
    obtain ⟨as, ha, hin, hif, hel⟩ := he items pl items[i] (by simp)
    have htk : items.take (i + 1) = items.take i ++ [items[i]] := by rw [List.take_add_one, hd']; rfl
    -- what stays of L
    have keepL : ∀ {Ga Ha Gb Hb : Hp}, Gr c.Z Ga Ha Gb Hb → Ga L = none → Ha L = some (.lst acc) → Gb L = none ∧ Hb L = some (.lst acc) := by
      intro Ga Ha Gb Hb gr h1 h2
      refine ⟨?_, gr.h _ _ h2 ndk⟩
      cases e : Gb L with
      | none => rfl
      | some o =>
        rcases gr.nw L (by rw [e]; exact fun z => nomatch z) with z | z
        · exact absurd h1 z
        · rw [h2] at z; cases z
    obtain ⟨gL2, hL2⟩ := keepL gr2 hgL hHL
    have sw : S (I.blk scope) c G2 H2 (wipe σ (own.map (fun x : Str × Nat => x.2))) (wipeDs ds (own.map (fun x : Str × Nat => x.2))) := State.wipe s2 (own.map (fun x : Str × Nat => x.2))
    refine qg c (wipe σ (own.map (fun x : Str × Nat => x.2))) G2 H2 (wipeDs ds (own.map (fun x : Str × Nat => x.2))) v items[i] as sw r2 ha _ fun σ3 s3 hwp hno => ?_
    refine ⟨(hwp (own.map (fun x : Str × Nat => x.2)) hin).trans ?_, fun Y FY => hif Y FY σ3 G2 H2 s3 _ fun G3 H3 gr3 s4 => ?_⟩
    · have key : ∀ vs : List Nat, ∀ us : List Nat, (∀ u ∈ us, u ∈ vs) → wipe (wipe σ us) vs = wipe σ vs := by
        intro vs us
        induction us with
        | nil => intro _; rfl
        | cons u us ih =>
          intro hu
          show wipe ((wipe σ us).set u none) vs = _
          rw [wipe_set (hu u (by simp)), ih (fun w hw => hu w (by simp [hw]))]
      exact key _ _ (fun u hu => hu)
    · obtain ⟨gL3, hL3⟩ := keepL gr3 gL2 hL2
      have s4' : S I c G3 H3 σ ds := s2.regrow s4 gr3
      cases hkeep : keep items[i] with
      | false =>
        refine iteF ⟨G3, acc, l, (gr.trans gr2).trans gr3, s4', gL3, hL3, ra.mono (gr2.g.trans gr3.g), ?_⟩
        rw [htk]; exact made.skip hkeep
      | true =>
        refine iteT (fun Y FY => hel hkeep Y FY σ3 G3 H3 s4 _ fun z G4 H4 t gr4 s5 r5 p5 => ?_)
        obtain ⟨gL4, hL4⟩ := keepL gr4 gL3 hL3
        have s5' : S I c G4 H4 σ ds := s4'.regrow s5 gr4
        have hacc : acc.length = l.length := ra.length
        have hml := made.length
        rw [List.length_take] at hml
        refine ⟨acc, hL4, by rw [hacc]; exact Lm_lt (by omega), G4, acc ++ [z], l ++ [t], ?_, s5'.poke gL4 ndk h00 no, gL4, upd_same, (ra.mono ((gr2.g.trans gr3.g).trans gr4.g)).append (.cons r5 .nil), by rw [htk]; exact made.put hkeep p5⟩
        have g4 := ((gr.trans gr2).trans gr3).trans gr4
        refine ⟨g4.g, fun a o h z' => ?_, g4.nw, fun p h z' => ?_⟩
        · have : a ≠ L := by
            rintro rfl
            rw [nL] at h; cases h
          rw [upd_ne this]; exact g4.h a o h z'
        · by_cases e : p = L
          · rw [e, upd_same] at z'; cases z'
          · rw [upd_ne e] at z'; exact g4.dom p h z'
  · have e : i = items.length := by omega
    subst e
    refine .inl ⟨yb, k L acc G' H' l (x1.trans gr) s' hL0 hgL ndk ?_ hHL ra ⟨items, pl, by rw [List.take_length] at made; exact made⟩⟩
    have := made.length
    rw [List.take_length] at this
    omega
/-- [elt for tg in iter if ..]: a fresh list -/
theorem ef_lc {elt tg iter : Expr} {ifs : List Expr} {scope : Scope} (own : List (Str × Nat)) {asg : D → List (Nat × D) → Prop} {PL : List D → Prop} {keep : D → Bool} {R : D → D → Prop}
    (hb : blkC I.N I.sc scope own = true) (hw : Walk I c tg iter ds PL) (ht : TgE (I.blk scope) tg asg) (hl : ∀ items, PL items → items.length ≤ Lm)
    (he : ∀ items, PL items → ∀ d ∈ items, ∃ as, asg d as ∧ (∀ q ∈ as, q.1 ∈ own.map (fun x : Str × Nat => x.2)) ∧ EvIs (I.blk scope) c ifs (setDs (wipeDs ds (own.map (fun x : Str × Nat => x.2))) as) (keep d) ∧ (keep d = true → EvE (I.blk scope) c elt (setDs (wipeDs ds (own.map (fun x : Str × Nat => x.2))) as) (R d)))
    (hs : ∀ X, Fits I X → ∀ x, foldedSetIterable iter X.env x = pure x := by intros; rfl) :
    EvF I c (.ListComp elt [⟨tg, iter, ifs, 0⟩] scope pos) ds (fun l => ∃ items, PL items ∧ Made keep R items l) := fun X F σ G H s Q k => by
  obtain ⟨wi, hi, qi⟩ := hw X F
  obtain ⟨g, hg, qg⟩ := ht
  have hk : scope.kind = .function := (blkOk_by hb).kind
  refine w_pe (pe_lc (own := own) (g := g) (tt := uI (I.blk scope) ifs) (te := uE (I.blk scope) elt) F.calm (by rw [F.N]; exact F.nd) hi (by rw [F.N, F.sc]; exact blkOk_by hb)
    (fun s H C cl fp => hg _ (F.blk hk s H C cl fp)) (fun s H C cl fp => pts_u (F.blk hk s H C cl fp)) (fun s H C cl fp => pe_u (F.blk hk s H C cl fp)) (hs X F)) ?_
  exact ef_lc_core own hb hi qi hg qg hl he X F σ G H s Q k
end
end Dl


set_option Elab.async false
set_option linter.all false
namespace Dl
open PySem L2

/-! ### arguments: data, and the deck -/
inductive AD where
  | dat (d : D) | deck
def ArgRp (K : Frag) (Z : Zone) (G : Hp) : AD → V → Prop
  | .dat d, v => Rp K G d v
  | .deck, v => ∃ dk c, Z.deck = some (dk, c) ∧ v = .ref dk
def ArgsRp (K : Frag) (Z : Zone) (G : Hp) : List AD → List V → Prop
  | [], vs => vs = []
  | a :: as, vs => ∃ v ws, vs = v :: ws ∧ ArgRp K Z G a v ∧ ArgsRp K Z G as ws
theorem ArgRp.mono {K : Frag} {Z : Zone} {G G' : Hp} (e : Ex G G') {a : AD} {v : V} (h : ArgRp K Z G a v) : ArgRp K Z G' a v := by
  cases a with
  | dat d => exact Rp.mono e d h
  | deck => exact h
theorem ArgsRp.length {K : Frag} {Z : Zone} {G : Hp} : ∀ {as : List AD} {vs : List V}, ArgsRp K Z G as vs → vs.length = as.length
  | [], _, h => by unfold ArgsRp at h; rw [h]; rfl
  | a :: as, _, h => by
    unfold ArgsRp at h
    obtain ⟨v, ws, rfl, _, h2⟩ := h
    simp [ArgsRp.length h2]
theorem ArgsRp.get {K : Frag} {Z : Zone} {G : Hp} : ∀ {as : List AD} {vs : List V} {i : Nat} {a : AD}, ArgsRp K Z G as vs → as[i]? = some a → ∃ v, vs[i]? = some v ∧ ArgRp K Z G a v
  | [], _, _, _, _, e => by simp at e
  | a :: as, _, 0, _, h, e => by
    unfold ArgsRp at h
    obtain ⟨v, ws, rfl, h1, h2⟩ := h
    simp at e; subst e; exact ⟨v, rfl, h1⟩
  | a :: as, _, i + 1, _, h, e => by
    unfold ArgsRp at h
    obtain ⟨v, ws, rfl, h1, h2⟩ := h
    obtain ⟨u, e1, e2⟩ := ArgsRp.get (i := i) h2 (by simpa using e)
    exact ⟨u, by simpa using e1, e2⟩
theorem ArgsRp.dats {K : Frag} {Z : Zone} {G : Hp} : ∀ {l : List D} {vs : List V}, RpA K G l vs → ArgsRp K Z G (l.map AD.dat) vs
  | [], _, h => by unfold RpA at h; exact h
  | d :: l, _, h => by
    obtain ⟨v, ws, rfl, h1, h2⟩ := h.inv
    exact ⟨v, ws, rfl, h1, ArgsRp.dats h2⟩

theorem ArgsRp.zone {K : Frag} {Z Z' : Zone} {G : Hp} (hz : Z.deck = Z'.deck) : ∀ {as : List AD} {vs : List V}, ArgsRp K Z G as vs → ArgsRp K Z' G as vs
  | [], _, h => h
  | a :: as, _, h => by
    unfold ArgsRp at *
    obtain ⟨v, ws, rfl, h1, h2⟩ := h
    refine ⟨v, ws, rfl, ?_, ArgsRp.zone hz h2⟩
    cases a with
    | dat d => exact h1
    | deck => unfold ArgRp at *; rw [← hz]; exact h1

/-! ### promises -/
/-- Pc: for such arguments what may come back is told by R -/
def spD (K : Frag) (Pc : List AD → (D → Prop) → Prop) : Sp := fun vs H Q _ => ∃ (Z : Zone) (G : Hp) (ads : List AD) (R : D → Prop), Z.given = none ∧ Ex G H ∧ DeckIn Z G H ∧ ArgsRp K Z G ads vs ∧ Pc ads R ∧
  ∀ v G' H' d, State K Z G H G' H' [] [] → Rp K G' d v → R d → Q v H'
/-- .. a fresh list -/
def spF (K : Frag) (Pc : List AD → (List D → Prop) → Prop) : Sp := fun vs H Q _ => ∃ (Z : Zone) (G : Hp) (ads : List AD) (R : List D → Prop), Z.given = none ∧ Ex G H ∧ DeckIn Z G H ∧ ArgsRp K Z G ads vs ∧ Pc ads R ∧
  ∀ p xs G' H' l, State K Z G H G' H' [] [] → H p = none → G' p = none → ¬ inDeck Z p → l.length ≤ Lm → H' p = some (.lst xs) → RpA K G' l xs → R l → Q (.ref p) H'

structure FnS (I : Inf) (x : Str) (sp : Sp) : Prop where
  ok : ∃ (f : Addr) (fd : FuncData) (ps : List Str), I.mg x = some (.ref f) ∧ PySem.W.keepIn I.K (.ref f) = true ∧ Binds I.K fd ps [] ∧ FnOk I.prog I.w I.K I.mg I.base CX0 I.k f fd ps sp
abbrev FnD (I : Inf) (x : Str) (Pc : List AD → (D → Prop) → Prop) : Prop := FnS I x (spD I.K Pc)
abbrev FnF (I : Inf) (x : Str) (Pc : List AD → (List D → Prop) → Prop) : Prop := FnS I x (spF I.K Pc)

section
variable {I : Inf} {c : Ct} {ds : List SD} {e : Expr} {es : List Expr} {P : D → Prop} {pos : Pos} {d : D}

def EvAD (I : Inf) (c : Ct) (es : List Expr) (ds : List SD) (P : List AD → Prop) : Prop :=
  ∀ X, Fits I X → ∀ σ G H, S I c G H σ ds → ∀ Q : List V → Hp → Prop, (∀ vs G' H' l, Gr c.Z G H G' H' → S I c G' H' σ ds → ArgsRp I.K c.Z G' l vs → P l → Q vs H') → wA X es σ H Q
theorem ed_nil : EvAD I c [] ds (· = []) := fun X F σ G H s Q k => w_pa pa_nil (k [] G H [] Gr.refl s (by unfold ArgsRp; rfl) rfl)
theorem ed_datP {R T : List AD → Prop} (h : EvE I c e ds P) (hr : EvAD I c es ds R) (hp : ∀ d l, P d → R l → T (.dat d :: l))
    (hs : ∀ X, Fits I X → starEach (e :: es) X.env = (false, eval e X.env) :: starEach es X.env := by intros; rfl) : EvAD I c (e :: es) ds T := fun X F σ G H s Q k =>
  w_pa (pa_cons pe_w pa_w (hs X F)) (h X F σ G H s _ fun v G1 H1 d x1 s1 r1 p1 => hr X F σ G1 H1 s1 _ fun vs G2 H2 l x2 s2 r2 p2 =>
    k (v :: vs) G2 H2 (.dat d :: l) (x1.trans x2) s2 ⟨v, vs, rfl, Rp.mono x2.g d r1, r2⟩ (hp d l p1 p2))
theorem ed_dat {l : List AD} (h : EvE I c e ds (· = d)) (hr : EvAD I c es ds (· = l))
    (hs : ∀ X, Fits I X → starEach (e :: es) X.env = (false, eval e X.env) :: starEach es X.env := by intros; rfl) : EvAD I c (e :: es) ds (· = .dat d :: l) :=
  ed_datP h hr (fun d' l' h1 h2 => by rw [h1, h2]) hs
theorem ed_deckP {R T : List AD → Prop} (i : Nat) {x : Str} {p : Pos} (hN : I.N[i]? = some x) (hv : Vis I.sc x) (hd : ds[i]? = some .deck) (hr : EvAD I c es ds R) (hp : ∀ l, R l → T (.deck :: l))
    (h1 : (x == ("__debug__" : Str)) = false := by decide) (h2 : (x == ("__classdict__" : Str)) = false := by decide)
    (hs : ∀ X, Fits I X → starEach (.Name x p :: es) X.env = (false, eval (.Name x p) X.env) :: starEach es X.env := by intros; rfl) : EvAD I c (.Name x p :: es) ds T := fun X F σ G H s Q k => by
  refine w_pa (pa_cons (pe_var (i := i) (by rw [F.N]; exact hN) (by rw [F.sc]; exact hv) h1 h2) pa_w (hs X F)) ?_
  obtain ⟨dk, cc, hz, e1⟩ := s.slots i _ hd
  refine ⟨.ref dk, ?_, hr X F σ G H s _ fun vs G2 H2 l x2 s2 r2 p2 => k (.ref dk :: vs) G2 H2 (.deck :: l) x2 s2 ⟨.ref dk, vs, rfl, ⟨dk, cc, hz, rfl⟩, r2⟩ (hp l p2)⟩
  cases z : σ[i]? with
  | none => rw [z] at e1; cases e1
  | some o => rw [z] at e1; simpa using e1
theorem ed_deck {l : List AD} (i : Nat) {x : Str} {p : Pos} (hN : I.N[i]? = some x) (hv : Vis I.sc x) (hd : ds[i]? = some .deck) (hr : EvAD I c es ds (· = l))
    (h1 : (x == ("__debug__" : Str)) = false := by decide) (h2 : (x == ("__classdict__" : Str)) = false := by decide)
    (hs : ∀ X, Fits I X → starEach (.Name x p :: es) X.env = (false, eval (.Name x p) X.env) :: starEach es X.env := by intros; rfl) : EvAD I c (.Name x p :: es) ds (· = .deck :: l) :=
  ed_deckP i hN hv hd hr (fun l' h => by rw [h]) h1 h2 hs

/-! ### calls of defs -/
theorem ev_callD {x : Str} {p : Pos} {Pc : List AD → (D → Prop) → Prop} {PA : List AD → Prop} (hf : FnD I x Pc) (hg : I.sc.names.lookup x = some .globalImplicit) (ha : EvAD I c (e :: es) ds PA)
    (h : ∀ l, PA l → ∃ R, Pc l R ∧ ∀ d, R d → P d) (hdb : (x == ("__debug__" : Str)) = false := by decide)
    (he : ∀ X, Fits I X → starEach (e :: es) X.env = (false, eval e X.env) :: starEach es X.env := by intros; rfl) (hpl : ∀ X, Fits I X → (backTo pos (starEach es X.env)).any (·.1) = false := by intros; rfl) :
    EvE I c (.Call (.Name x p) (e :: es) [] pos) ds P := fun X F σ G H s Q k => by
  obtain ⟨f, fd, ps, hm, hk, hb, G0⟩ := hf.ok
  have G1 : FnOk X.prog X.w X.K X.mg X.base CX0 I.k f fd ps (spD I.K Pc) := by rw [F.prog, F.w, F.K, F.mg, F.base]; exact G0
  refine w_pe (pe_call G1 F.room (by show X.env.scope.names.lookup x = _; rw [F.sc]; exact hg) (by rw [F.mg]; exact hm) (by rw [F.K]; exact hk) (by rw [F.K]; exact hb) .nil pass0 pa_w hdb (he X F) (hpl X F)) ?_
  refine ha X F σ G H s _ fun vs G1 H1 l x1 s1 r1 p1 => ?_
  obtain ⟨R, hc, hp⟩ := h l p1
  rw [List.append_nil]
  refine ⟨{ deck := c.Z.deck }, G1, l, R, rfl, s1.ex, s1.deck, ArgsRp.zone (Z := c.Z) (Z' := { deck := c.Z.deck }) rfl r1, hc, fun v G' H' d t r q => ?_⟩
  obtain ⟨s2, gr⟩ := State.after s1 t rfl (.inr rfl)
  exact k v G' H' d (x1.trans gr) s2 r (hp d q)
theorem ef_callF {x : Str} {p : Pos} {Pc : List AD → (List D → Prop) → Prop} {PA : List AD → Prop} {PL : List D → Prop} (hf : FnF I x Pc) (hg : I.sc.names.lookup x = some .globalImplicit) (ha : EvAD I c (e :: es) ds PA)
    (h : ∀ l, PA l → ∃ R, Pc l R ∧ ∀ d, R d → PL d) (hdb : (x == ("__debug__" : Str)) = false := by decide)
    (he : ∀ X, Fits I X → starEach (e :: es) X.env = (false, eval e X.env) :: starEach es X.env := by intros; rfl) (hpl : ∀ X, Fits I X → (backTo pos (starEach es X.env)).any (·.1) = false := by intros; rfl) :
    EvF I c (.Call (.Name x p) (e :: es) [] pos) ds PL := fun X F σ G H s Q k => by
  obtain ⟨f, fd, ps, hm, hk, hb, G0⟩ := hf.ok
  have G1 : FnOk X.prog X.w X.K X.mg X.base CX0 I.k f fd ps (spF I.K Pc) := by rw [F.prog, F.w, F.K, F.mg, F.base]; exact G0
  refine w_pe (pe_call G1 F.room (by show X.env.scope.names.lookup x = _; rw [F.sc]; exact hg) (by rw [F.mg]; exact hm) (by rw [F.K]; exact hk) (by rw [F.K]; exact hb) .nil pass0 pa_w hdb (he X F) (hpl X F)) ?_
  refine ha X F σ G H s _ fun vs G1 H1 l x1 s1 r1 p1 => ?_
  obtain ⟨R, hc, hp⟩ := h l p1
  rw [List.append_nil]
  refine ⟨{ deck := c.Z.deck }, G1, l, R, rfl, s1.ex, s1.deck, ArgsRp.zone (Z := c.Z) (Z' := { deck := c.Z.deck }) rfl r1, hc, fun q xs G' H' m t np hg' hd hl hh r qq => ?_⟩
  obtain ⟨s2, gr⟩ := State.after s1 t rfl (.inr rfl)
  have np0 : H q = none := by
    cases e : H q with
    | none => rfl
    | some o => exact absurd np (x1.dom q (by rw [e]; exact fun z => nomatch z))
  exact k q xs G' H' m (x1.trans gr) s2 np0 hg' hd hl hh r (hp m qq)
end

/-! ### a def keeps its promise -/
def SD.of : AD → SD
  | .dat d => .dat d
  | .deck => .deck
def startD (ads : List AD) (n : Nat) : List SD := ads.map SD.of ++ List.replicate (n - ads.length) .un
theorem State.start {K : Frag} {Z : Zone} {G H : Hp} {ads : List AD} {vs : List V} {N : List Str} (hz : Z.given = none) (ex : Ex G H) (hd : DeckIn Z G H) (r : ArgsRp K Z G ads vs) (hn : ads.length ≤ N.length) :
    State K Z G H G H (start N vs) (startD ads N.length) := by
  have hl := r.length
  refine ⟨ex, Ex.refl _, fun p h => .inl h, fun a o h _ => h, hd, ?_, fun p h => (by rw [hz] at h; cases h), fun i sd h => ?_, fun i j d1 d2 p _ h => ?_⟩
  · unfold L2.start startD; simp [hl]
  · unfold startD at h
    by_cases hi : i < ads.length
    · rw [List.getElem?_append_left (by simpa using hi), List.getElem?_map] at h
      cases e : ads[i]? with
      | none => rw [e] at h; cases h
      | some a =>
        rw [e] at h; cases h
        obtain ⟨v, h1, h2⟩ := r.get e
        have e2 : ((L2.start N vs)[i]?).join = some v := by
          unfold L2.start
          rw [List.getElem?_append_left (by simp; omega), List.getElem?_map, h1]; rfl
        rw [e2]
        cases a with
        | dat d => exact ⟨v, rfl, h2⟩
        | deck => obtain ⟨dk, cc, h3, h4⟩ := h2; exact ⟨dk, cc, h3, by rw [h4]⟩
    · rw [List.getElem?_append_right (by simpa using hi), List.getElem?_replicate] at h
      split at h
      · cases h; trivial
      · cases h
  · exfalso
    unfold startD at h
    by_cases hi : i < ads.length
    · rw [List.getElem?_append_left (by simpa using hi), List.getElem?_map] at h
      cases e : ads[i]? with
      | none => rw [e] at h; cases h
      | some a => rw [e] at h; cases a <;> cases h
    · rw [List.getElem?_append_right (by simpa using hi), List.getElem?_replicate] at h
      split at h <;> cases h

section
variable {P : Program} {w : World} {K : Frag} {mg : Str → Option Value} {base : Heap} {x qual : Str} {st : Stmt} {f : Addr} {fd : FuncData} {N ps : List Str} {k : Nat}
theorem fits_def (Sc : FnScope N ps (defScope st)) {cdv : Value} {A : Around} {outer : List Env} {s : Shared} {H : Hp} {E : XK} (hr : Room k (A.deeper (PyProof.Rows.envOfC qual (defScope st) s.heap.objs.size f cdv))) :
    Fits ⟨P, w, K, mg, base, N, defScope st, k, fun _ => true, false⟩ (cxOf CX0 P w K mg base N qual (defScope st) f cdv A outer s H E).nox :=
  ⟨rfl, rfl, rfl, rfl, rfl, rfl, rfl, rfl, hr, rfl, fun _ _ => rfl, Sc.nd, Sc.kind, fun h => (by cases h)⟩
theorem fits_defG (Sc : FnScope N ps (defScope st)) {cdv : Value} {A : Around} {outer : List Env} {s : Shared} {H : Hp} {E : XK} (hr : Room k (A.deeper (PyProof.Rows.envOfC qual (defScope st) s.heap.objs.size f cdv))) (hg : A.guards = some []) :
    Fits ⟨P, w, K, mg, base, N, defScope st, k, fun _ => true, true⟩ (cxOf CX0 P w K mg base N qual (defScope st) f cdv A outer s H E).nox :=
  ⟨rfl, rfl, rfl, rfl, rfl, rfl, rfl, rfl, hr, rfl, fun _ _ => rfl, Sc.nd, Sc.kind, fun _ => hg⟩
theorem pre_le (Sc : FnScope N ps (defScope st)) : ps.length ≤ N.length := by have := congrArg List.length Sc.pre; rw [List.length_take] at this; omega
theorem fn_mkD {Pc : List AD → (D → Prop) → Prop} (F : Fun K x qual st f fd) (Sc : FnScope N ps (defScope st)) (hl : ∀ ads R, Pc ads R → ads.length = ps.length)
    (body : ∀ (c : Ct) (ads : List AD) (R : D → Prop), Pc ads R → c.Z.given = none → Run ⟨P, w, K, mg, base, N, defScope st, k, fun _ => true, false⟩ c (defBody st) (startD ads N.length) { nx := fun _ => R .none, rt := R, ro := fun l => R (.list l) }) :
    FnOk P w K mg base CX0 (k + 1) f fd ps (spD K Pc) := by
  refine F.ok Sc (fun vs H Q E h => ?_) (fun cdv A outer s H vs Q E hr h => ?_)
  · obtain ⟨Z, G, ads, R, _, _, _, r, hc, _⟩ := h
    rw [r.length]; exact hl ads R hc
  · obtain ⟨Z, G, ads, R, hz, ex, hd, r, hc, q⟩ := h
    refine ⟨_, pss_w, ?_⟩
    refine body ⟨Z, G, H⟩ ads R hc hz _ (fits_def Sc hr) (start N vs) G H _ (State.start hz ex hd r (by rw [hl ads R hc]; exact pre_le Sc)) ⟨fun σ' G' H' ds' e s' n => q .non G' H' .none s'.drop .non n, fun _ _ _ _ _ _ z => z.elim, fun _ _ _ _ _ _ z => z.elim,
      fun v G' H' d s' r' n => q v G' H' d s' r' n, fun p xs G' H' l s' a1 a2 a3 a4 a5 a6 n => ?_, fun _ _ _ _ _ _ _ _ _ _ _ _ _ _ _ _ _ _ _ _ z => z.elim⟩
    have s2 : State K Z G H (upd G' p (.lst xs)) H' [] [] := State.know s' a5 a2 a3 (.inl a1) (fun i l h => by simp at h)
    exact q (.ref p) _ H' (.list l) s2 (.lst upd_same a4 (a6.mono (Ex.new a2))) n
theorem fn_mkF {Pc : List AD → (List D → Prop) → Prop} (F : Fun K x qual st f fd) (Sc : FnScope N ps (defScope st)) (hl : ∀ ads R, Pc ads R → ads.length = ps.length)
    (body : ∀ (c : Ct) (ads : List AD) (R : List D → Prop), Pc ads R → c.Z.given = none → Run ⟨P, w, K, mg, base, N, defScope st, k, fun _ => true, false⟩ c (defBody st) (startD ads N.length) { nx := fun _ => False, rt := fun _ => False, ro := R }) :
    FnOk P w K mg base CX0 (k + 1) f fd ps (spF K Pc) := by
  refine F.ok Sc (fun vs H Q E h => ?_) (fun cdv A outer s H vs Q E hr h => ?_)
  · obtain ⟨Z, G, ads, R, _, _, _, r, hc, _⟩ := h
    rw [r.length]; exact hl ads R hc
  · obtain ⟨Z, G, ads, R, hz, ex, hd, r, hc, q⟩ := h
    refine ⟨_, pss_w, ?_⟩
    exact body ⟨Z, G, H⟩ ads R hc hz _ (fits_def Sc hr) (start N vs) G H _ (State.start hz ex hd r (by rw [hl ads R hc]; exact pre_le Sc)) ⟨fun σ' G' H' ds' e s' n => n.elim, fun _ _ _ _ _ _ z => z.elim, fun _ _ _ _ _ _ z => z.elim,
      fun v G' H' d s' r' n => n.elim, fun p xs G' H' l s' a1 a2 a3 a4 a5 a6 n => q p xs G' H' l s' a1 a2 a3 a4 a5 a6 n, fun _ _ _ _ _ _ _ _ _ _ _ _ _ _ _ _ _ _ _ _ z => z.elim⟩
/-- a promise of a fresh list is one of data -/
theorem FnF.toD {I : Inf} {x : Str} {Pc : List AD → (List D → Prop) → Prop} {Pd : List AD → (D → Prop) → Prop} (h : FnF I x Pc) (hp : ∀ ads R, Pd ads R → ∃ R', Pc ads R' ∧ ∀ l, R' l → R (.list l)) : FnD I x Pd := by
  obtain ⟨f, fd, ps, h1, h2, h3, h4⟩ := h.ok
  refine ⟨f, fd, ps, h1, h2, h3, h4.imp fun vs H Q E q => ?_⟩
  obtain ⟨Z, G, ads, R, hz, ex, hd, r, hc, q⟩ := q
  obtain ⟨R', hc', hr⟩ := hp ads R hc
  refine ⟨Z, G, ads, R', hz, ex, hd, r, hc', fun p xs G' H' l s' np hg hnd hl hh r' n => ?_⟩
  have h00 : H p = none := np
  have s2 : State I.K Z G H (upd G' p (.lst xs)) H' [] [] := State.know s' hh hg hnd (.inl h00) (fun i l h => by simp at h)
  exact q (.ref p) _ H' (.list l) s2 (.lst upd_same hl (r'.mono (Ex.new hg))) (hr l n)
end
end Dl


set_option Elab.async false
set_option linter.all false
set_option maxRecDepth 100000
namespace Dl
open PySem PySem.W L2
section
variable {I : Inf} {c : Ct} {ds : List SD} {e a b : Expr} {es : List Expr} {P P' PA PB : D → Prop} {pos : Pos} {d : D} {A : After}

/-- f(e, ..), f a built-in function under a name of the module -/
theorem ev_gcd {x : Str} {p : Pos} {i j : Int} (hg : I.sc.names.lookup x = some .globalImplicit) (hm : I.mg x = some (.builtin "math.gcd")) (ha : EvE I c a ds (· = .int i)) (hb : EvE I c b ds (· = .int j))
    (hs : ∀ X, Fits I X → starEach [a, b] X.env = (false, eval a X.env) :: starEach [b] X.env := by intros; rfl) (hs2 : ∀ X, Fits I X → starEach [b] X.env = (false, eval b X.env) :: starEach [] X.env := by intros; rfl)
    (hpl : ∀ X, Fits I X → (backTo pos (starEach [b] X.env)).any (·.1) = false := by intros; rfl) (hdb : (x == ("__debug__" : Str)) = false := by decide) :
    EvE I c (.Call (.Name x p) [a, b] [] pos) ds (· = .int ((Nat.gcd i.natAbs j.natAbs : Nat) : Int)) := fun X F σ G H s Q k => by
  refine w_pe (pe_callBfun cr_gcd (by show X.env.scope.names.lookup x = _; rw [F.sc]; exact hg) (by rw [F.mg]; exact hm) (pa_cons pe_w (pa_cons pe_w pa_nil (hs2 X F)) (hs X F)) hdb (hs X F) (hpl X F)) ?_
  refine ha X F σ G H s _ fun x G1 H1 d x1 s1 r1 p1 => hb X F σ G1 H1 s1 _ fun y G2 H2 e x2 s2 r2 p2 => ?_
  subst p1; subst p2; rw [r1.int', r2.int']
  exact ⟨i, j, rfl, (k.mono (x1.trans x2)).now s2 .int rfl⟩
/-- a or b, a an int -/
theorem ev_orI {i : Int} {rest : List Expr} (ha : EvE I c a ds (· = .int i)) (h1 : i ≠ 0 → P (.int i)) (h2 : i = 0 → EvE I c (.BoolOp .Or (b :: rest) pos) ds P) : EvE I c (.BoolOp .Or (a :: b :: rest) pos) ds P := fun X F σ G H s Q k => by
  refine w_pe (pe_orT pe_w pe_w) (ha X F σ G H s _ fun x G1 H1 d x1 s1 r1 p1 => ?_)
  subst p1; rw [r1.int']
  refine ⟨i != 0, rfl, ?_⟩
  by_cases h : i = 0
  · subst h; exact iteF (h2 rfl X F σ G1 H1 s1 Q (k.mono x1))
  · have : (i != 0) = true := by simp [h]
    rw [this]; exact iteT ((k.mono x1).now s1 .int (h1 h))

/-! isinstance -/
def tyD : D → String
  | .none => "NoneType"
  | .bool _ => "bool"
  | .int _ => "int"
  | .str _ => "str"
  | .list _ => "list"
  | .tuple _ => "tuple"
  | .dict _ => "dict"
theorem Rp.ty {K : Frag} {G H : Hp} (e : Ex G H) {d : D} {v : V} (r : Rp K G d v) : TyX K H v (.type (tyD d)) := by
  cases d with
  | none => rw [r.non']; exact .base .non
  | bool b => rw [r.bl']; exact .base (.bl b)
  | int i => rw [r.int']; exact .base (.int i)
  | str x => rw [r.str']; exact .base (.str x)
  | list l => obtain ⟨a, xs, rfl, h1, _, _⟩ := r.lst'; exact .base (.lst (e _ _ h1))
  | tuple l =>
    obtain ⟨a, xs, rfl, h1, _, _⟩ := r.tup'
    rcases h1 with (h | ⟨o, h⟩) | ⟨o, its, n, h, hc, _⟩
    · exact .base (.tup (e _ _ h))
    · exact .fTuple (e _ _ h)
    · exact .kTuple h hc
  | dict l => unfold Rp at r; exact r.elim
theorem ev_isi {T : String} {x : Str} {p p2 : Pos} {r : Bool} (hg : I.sc.names.lookup ("isinstance" : Str) = some .globalImplicit) (hm : I.mg "isinstance" = none) (hgT : I.sc.names.lookup x = some .globalImplicit) (hmT : I.mg x = none) (hv : bootBuiltins x = some (.type T)) (ha : EvE I c a ds (· = d)) (hk : kitB (tyD d) T = some r)
    (hn : x ≠ "__name__" := by decide) (hdb : (x == ("__debug__" : Str)) = false := by decide)
    (hs : ∀ X, Fits I X → starEach [a, .Name x p2] X.env = (false, eval a X.env) :: starEach [.Name x p2] X.env := by intros; rfl)
    (hpl : ∀ X, Fits I X → (backTo pos (starEach [.Name x p2] X.env)).any (·.1) = false := by intros; rfl) :
    EvE I c (.Call (.Name "isinstance" p) [a, .Name x p2] [] pos) ds (· = .bool r) := fun X F σ G H s Q k => by
  have hb : bootBuiltins ("isinstance" : Str) = some (.builtin "isinstance") := by decide +kernel
  refine w_pe (pe_callB call_isi (by show X.env.scope.names.lookup _ = _; rw [F.sc]; exact hg) (by rw [F.mg]; exact hm) hb (pa_cons pe_w (pa_cons (pe_bltn (v := .ty T) (by show X.env.scope.names.lookup x = _; rw [F.sc]; exact hgT) (by rw [F.mg]; exact hmT) hv rfl hn hdb) pa_nil) (hs X F)) (by decide) (by decide) (hs X F) (hpl X F)) ?_
  refine ha X F σ G H s _ fun v G1 H1 d' x1 s1 r1 p1 => ?_
  subst p1
  exact ⟨v, .ty T, .type (tyD d'), .type T, r, rfl, .ty T, by rw [F.K]; exact Rp.ty s1.ex r1, kit_ty hk, (k.mono x1).now s1 .bl rfl⟩

/-! max(ints, default = 0) -/
def rMaxDef (K : Frag) : List V → List V → Hp → VK → Prop := fun vs zs H Q => ∃ (p : Addr) (ns : List Int) (dv : V), vs = [.ref p] ∧ zs = [dv] ∧ SqL K H p (ns.map V.int) ∧ (ns = [] → Q dv H) ∧ ∀ n r, ns = n :: r → Q (.int (r.foldl max n)) H
theorem dpAll_ints {K : Frag} {H : Hp} : ∀ ns : List Int, DpAll K H (ns.map V.int) (ns.map PyData.int)
  | [] => .nil
  | n :: ns => .cons (.int n) (dpAll_ints ns)
theorem depth_ints : ∀ ns : List Int, PyData.depthAll (ns.map PyData.int) ≤ 1
  | [] => by simp [PyData.depthAll]
  | n :: ns => by
    have := depth_ints ns
    simp [PyData.depthAll, PyData.depth]; omega
theorem cr_maxDef {X : Cx} (hc : X.calm = true) (hu : X.A.units + 64 < cLine) : CallRK X (.builtin "max") [Str.ofString "default"] (rMaxDef X.K) := by
  intro pins s σ H xs zs us ws Q I r rz h
  obtain ⟨p, ns, dv, rfl, rfl, hs, h0, h1⟩ := h
  rw [Vals.ref1 r]
  obtain ⟨wv, rfl, rd⟩ := vals1 rz
  obtain ⟨its, rv, hl, hlen⟩ := I.list hs
  obtain ⟨as, hr⟩ := Dp.readsAll I (ns.map PyData.int) _ _ (dpAll_ints ns) rv
  have hd := depth_ints ns
  have hal : AlikeAll (ns.map PyData.int) := by
    refine ⟨fun x hx y hy => ?_, fun x hx => ?_⟩
    · obtain ⟨i, _, rfl⟩ := List.mem_map.mp hx
      obtain ⟨j, _, rfl⟩ := List.mem_map.mp hy
      rfl
    · obtain ⟨i, _, rfl⟩ := List.mem_map.mp hx
      exact fun z => nomatch z
  refine max_list_default (I.ok.hd hc) hl.isList hr hal (by omega) (fun e h' tk hk => ?_) (fun y ys i v h' tk bs e hi hrd hk => ?_)
  · have : ns = [] := by cases ns with | nil => rfl | cons _ _ => cases e
    exact ⟨dv, H, I.kept hk, rd, h0 this⟩
  · cases ns with
    | nil => cases e
    | cons n r =>
      rw [List.map_cons] at e
      injection e with e1 e2
      subst e1; subst e2
      rw [maxD_ints] at hrd
      cases hrd
      exact ⟨.int _, H, I.kept hk, ⟨_, rfl⟩, h1 n r rfl⟩
def maxZ : List Int → Int
  | [] => 0
  | n :: r => r.foldl max n
theorem ev_maxDef0 {ns : List Int} {p p3 p4 : Pos} {j : Nat} (hg : I.sc.names.lookup ("max" : Str) = some .globalImplicit) (hm : I.mg "max" = none) (ha : EvE I c a ds (· = .list (ns.map PyData.int)))
    (hs : ∀ X, Fits I X → starEach [a] X.env = (false, eval a X.env) :: starEach [] X.env := by intros; rfl)
    (he : ∀ X, Fits I X → backTo pos (starEach [a] X.env) = (false, eval a X.env) :: backTo pos (starEach [] X.env) := by intros; rfl) (hpl : ∀ X, Fits I X → (backTo pos (starEach [a] X.env)).any (·.1) = false := by intros; rfl) :
    EvE I c (.Call (.Name "max" p) [a] [⟨some ("default" : Str), .Constant (.int 0) j p3, p4⟩] pos) ds (· = .int (maxZ ns)) := fun X F σ G H s Q k => by
  have hb : bootBuiltins ("max" : Str) = some (.builtin "max") := by decide +kernel
  refine w_pe (pe_callBK (cr_maxDef F.calm F.room.units) (by show X.env.scope.names.lookup _ = _; rw [F.sc]; exact hg) (by rw [F.mg]; exact hm) hb (pa_cons pe_w pa_nil (hs X F)) (pk_cons pe_int pk_nil) (he := he X F) (hpl := hpl X F)) ?_
  refine ha X F σ G H s _ fun v G1 H1 d' x1 s1 r1 p1 => ?_
  subst p1
  obtain ⟨q, xs, rfl, h1, h2, h3⟩ := r1.lst'
  rw [RpA.ints] at h3; subst h3
  refine ⟨q, ns, .int 0, rfl, rfl, SqL.of (s1.ex _ _ h1), fun e => ?_, fun n r e => ?_⟩
  · subst e; exact (k.mono x1).now s1 .int rfl
  · subst e; exact (k.mono x1).now s1 .int rfl
/-- xs.index(n), of ints, n among them -/
theorem ev_indexI {ns : List Int} {i : Int} {p2 p3 : Pos} (ha : EvE I c a ds (· = .list (ns.map PyData.int))) (hb : EvE I c b ds (· = .int i)) (h : i ∈ ns)
    (hbase : ∀ X, Fits I X → attributeBase a ("index" : Str) X.env (eval a X.env) = eval a X.env := by intros; rfl)
    (hfew : ∀ X, Fits I X → (((backTo p3 (starEach [b] X.env)).all fun x => !x.1) && (backToKw p3 (keywordEach [] X.env)).all (fun x => x.1.isSome) && decide ([b].length + ([] : List Keyword).length + (if ([] : List Keyword).isEmpty then 0 else 1) < 30)) = true := by intros; rfl)
    (hline : (p2.endLine == p3.line) = true := by rfl) (hs : ∀ X, Fits I X → starEach [b] X.env = (false, eval b X.env) :: starEach [] X.env := by intros; rfl) :
    EvE I c (.Call (.Attribute a ("index" : Str) p2) [b] [] p3) ds (· = .int (ns.idxOf i : Nat)) := fun X F σ G H s Q k => by
  refine w_pe (pe_bm PySem.F.plainAttrs_list PySem.F.slot_list_index (by with_unfolding_all rfl) mt_index (pe_w (e := a)) (pa_cons (pe_w (e := b)) pa_nil (hs X F)) (hbase := hbase X F) (hfew := hfew X F) (hline := hline) (hs := hs X F)) ?_
  refine ha X F σ G H s _ fun v G1 H1 d' x1 s1 r1 p1 => ?_
  subst p1
  obtain ⟨q, xs, rfl, h1, h2, h3⟩ := r1.lst'
  rw [RpA.ints] at h3; subst h3
  refine ⟨.inl ⟨rfl, _, SqL.of (s1.ex _ _ h1)⟩, hb X F σ G1 H1 s1 _ fun w G2 H2 d2 x2 s2 r2 p2 => ?_⟩
  subst p2; rw [r2.int']
  have hj : ns.idxOf i < ns.length := List.idxOf_lt_length_of_mem h
  refine ⟨q, ns.map V.int, .int i, ns.idxOf i, .int i, rfl, rfl, SqL.of (s2.ex _ _ (x2.g _ _ h1)), rfl, by simp [flatV], ?_, by simp [eqV], fun m z hm hz => ?_, (k.mono (x1.trans x2)).now s2 .int rfl⟩
  · rw [List.getElem?_map, List.getElem?_eq_getElem hj, List.getElem_idxOf hj]; rfl
  · rw [List.getElem?_map] at hz
    cases e : ns[m]? with
    | none => rw [e] at hz; cases hz
    | some n =>
      rw [e] at hz; cases hz
      have hml := (List.getElem?_eq_some_iff.mp e)
      obtain ⟨hl, hn⟩ := hml
      have : n ≠ i := by
        intro h; subst h
        have := List.not_of_lt_findIdx (p := (· == n)) (xs := ns) (i := m) (by unfold List.idxOf at hm; exact hm)
        simp [hn] at this
      simp [eqV, this]

/-! starred arguments -/
theorem ea_star {p : Pos} {m : List D} {R : List D → Prop} (h : EvE I c e ds (· = d)) (hd : d = .list m ∨ d = .tuple m) (hr : EvA I c es ds R)
    (hs : ∀ X, Fits I X → starEach (.Starred e p :: es) X.env = (true, eval e X.env) :: starEach es X.env := by intros; rfl) : EvA I c (.Starred e p :: es) ds (fun t => ∃ l, R l ∧ t = m ++ l) := fun X F σ G H s Q k =>
  w_pa (StX.pa_star pe_w pa_w (hs X F)) (h X F σ G H s _ fun v G1 H1 d' x1 s1 r1 p1 => by
    subst p1
    rcases hd with rfl | rfl
    · obtain ⟨q, xs, rfl, h1, _, h3⟩ := r1.lst'
      exact ⟨q, xs, rfl, .inr (SqL.of (s1.ex _ _ h1)), hr X F σ G1 H1 s1 _ fun vs G2 H2 l x2 s2 r2 p2 => k _ G2 H2 (m ++ l) (x1.trans x2) s2 ((h3.mono x2.g).append r2) ⟨l, p2, rfl⟩⟩
    · obtain ⟨q, xs, rfl, h1, _, h3⟩ := r1.tup'
      exact ⟨q, xs, rfl, .inl (by rw [F.K]; exact ex_t s1.ex h1), hr X F σ G1 H1 s1 _ fun vs G2 H2 l x2 s2 r2 p2 => k _ G2 H2 (m ++ l) (x1.trans x2) s2 ((h3.mono x2.g).append r2) ⟨l, p2, rfl⟩⟩)
end
end Dl


set_option Elab.async false
set_option linter.all false
set_option maxRecDepth 100000
set_option maxHeartbeats 4000000
namespace Dl
open PySem PySem.Spec PyProof.Rows L2
/-- t * 1 is t -/
theorem tuple_mul1 (l : Addr) (items : Array Value) (n : Nat) (dd : Option Addr) (sl : Array (Option Value)) (x : Int) (u : Tok) (c0 : (decide (x < -(2 ^ 63)) || decide (x ≥ 2 ^ 63)) = false) (c1 : (items.isEmpty || x == 1) = true) :
    Meets (Builtin.«tuple.__mul__» ⟨[.ref l, .int x u], []⟩) (fun _ R s => s.heap.get? l = some { cls := .type "tuple", dict := dd, data := .seq items n, slots := sl } ∧ R (.ok (.ret (Value.ref l))) s) :=
  .of_wp fun prog w A R s h => by
    obtain ⟨hp, g, d, tk, os⟩ := s
    obtain ⟨hl, h⟩ := h
    have f1 := AutoSeq1.idx_int
    wp_walk using wpAny_loadPart' hl
    repeat (first
      | (refine wpAny_ite_false (decide_eq_false (by rw [c0]; exact Bool.false_ne_true)) ?_; wp_walk using wpAny_loadPart' hl)
      | (refine wpAny_ite_true (decide_eq_true c1) ?_; wp_walk using wpAny_loadPart' hl))
    exact ⟨_, rfl, h⟩
theorem tuple_mul0 (l : Addr) (items : Array Value) (n : Nat) (dd : Option Addr) (sl : Array (Option Value)) (x : Int) (u : Tok) (c0 : (decide (x < -(2 ^ 63)) || decide (x ≥ 2 ^ 63)) = false) (c1 : (items.isEmpty || x == 1) = false) (c2 : (decide (x ≤ 0) || items.isEmpty) = true) :
    Meets (Builtin.«tuple.__mul__» ⟨[.ref l, .int x u], []⟩) (fun _ R s => s.heap.get? l = some { cls := .type "tuple", dict := dd, data := .seq items n, slots := sl } ∧
      R (.ok (.ret (Value.ref s.heap.objs.size))) { s with heap := s.heap.push { cls := Value.type "tuple", data := Data.seq #[] }, toks := s.toks }) :=
  .of_wp fun prog w A R s h => by
    obtain ⟨hp, g, d, tk, os⟩ := s
    obtain ⟨hl, h⟩ := h
    have f1 := AutoSeq1.idx_int
    wp_walk using wpAny_loadPart' hl
    repeat (first
      | (refine wpAny_ite_false (decide_eq_false (by rw [c0]; exact Bool.false_ne_true)) ?_; wp_walk using wpAny_loadPart' hl)
      | (refine wpAny_ite_false (decide_eq_false (by rw [c1]; exact Bool.false_ne_true)) ?_; wp_walk using wpAny_loadPart' hl)
      | (refine wpAny_ite_true (decide_eq_true c2) ?_; wp_walk using wpAny_loadPart' hl))
    exact ⟨_, rfl, h⟩
section
variable {X : Cx}
def rRepA (K : PySem.W.Frag) : R2 := fun x y H Q => ∃ l k xs, x = .ref l ∧ y = .int k ∧ SqT K H l xs ∧ -(2 ^ 63) ≤ k ∧ k ≤ 1000 ∧ xs.length ≤ 1000 ∧
  (xs = [] ∨ k = 1 → Q (.ref l) H) ∧ (xs ≠ [] → k ≤ 0 → ∀ p, H p = none → Q (.ref p) (upd H p (.tup []))) ∧ (xs ≠ [] → 2 ≤ k → ∀ p, H p = none → Q (.ref p) (upd H p (.tup (List.replicate k.toNat xs).flatten)))
theorem op_repA : OpR X (binaryOp .Mult) (rRepA X.K) := by
  intro pins s σ H x y v u Q I rx ry h
  obtain ⟨l, k, xs, rfl, rfl, hT, hlo, hhi, hz, q1, q0, q2⟩ := h
  by_cases h2 : xs ≠ [] ∧ 2 ≤ k
  · exact op_repT pins s σ H _ _ v u Q I rx ry ⟨l, k, xs, rfl, rfl, hT, h2.1, h2.2, hhi, hz, q2 h2.1 h2.2⟩
  cases rx
  obtain ⟨t, rfl⟩ := ry
  obtain ⟨its, r, ⟨⟨cls, dd, data, sl⟩, ho, hc, n, hd⟩, hs⟩ := I.tuple hT
  simp only at hc hd
  subst hc hd
  have hle : its.length = xs.length := r.length.symm
  have c0 : (decide (k < -(2 ^ 63)) || decide (k ≥ 2 ^ 63)) = false := by
    rw [decide_eq_false (by omega), decide_eq_false (by omega)] <;> rfl
  have emp : its.toArray.isEmpty = xs.isEmpty := by
    cases r with
    | nil => rfl
    | cons _ _ => rfl
  by_cases h1 : xs = [] ∨ k = 1
  · have c1 : (its.toArray.isEmpty || k == 1) = true := by
      rw [emp]
      rcases h1 with h | h
      · subst h; rfl
      · subst h; simp
    refine wpAny_binaryOp_repeat_ref (T := "tuple") (U := "int") (by decide) ⟨_, ho, rfl⟩ (fun s' => typeIs_int s' k t) noFill_tuple_mul F.fills_int_mul F.slot_int_rmul repeat_tuple F.slot_int_index.lookup
      (call_meets F.slot_int_rmul (typeIs_int s k t) F.entry_int_rmul (F.args_int_rmul_2 _ _) (int_rmul_tuple k t l its.toArray n dd sl)
        ⟨ho, rfl, ⟨_, ho, rfl⟩, call_meets F.slot_tuple_mul ⟨_, ho, rfl⟩ F.entry_tuple_mul (F.args_tuple_mul_2 _ _) (tuple_mul1 l its.toArray n dd sl k t c0 c1) ⟨ho, ?_⟩⟩)
    exact ⟨.ref l, H, I, rfl, q1 h1⟩
  · have hx : xs ≠ [] := fun e => h1 (.inl e)
    have hk : k ≤ 0 := by
      rcases Int.lt_or_le 0 k with h | h
      · exfalso
        have : k ≠ 1 := fun e => h1 (.inr e)
        exact h2 ⟨hx, by omega⟩
      · exact h
    have hne : xs.isEmpty = false := by cases xs with | nil => exact absurd rfl hx | cons _ _ => rfl
    have c1 : (its.toArray.isEmpty || k == 1) = false := by
      rw [emp, hne, Bool.false_or]; exact beq_eq_false_iff_ne.mpr (by omega)
    have c2 : (decide (k ≤ 0) || its.toArray.isEmpty) = true := by rw [decide_eq_true hk]; rfl
    refine wpAny_binaryOp_repeat_ref (T := "tuple") (U := "int") (by decide) ⟨_, ho, rfl⟩ (fun s' => typeIs_int s' k t) noFill_tuple_mul F.fills_int_mul F.slot_int_rmul repeat_tuple F.slot_int_index.lookup
      (call_meets F.slot_int_rmul (typeIs_int s k t) F.entry_int_rmul (F.args_int_rmul_2 _ _) (int_rmul_tuple k t l its.toArray n dd sl)
        ⟨ho, rfl, ⟨_, ho, rfl⟩, call_meets F.slot_tuple_mul ⟨_, ho, rfl⟩ F.entry_tuple_mul (F.args_tuple_mul_2 _ _) (tuple_mul0 l its.toArray n dd sl k t c0 c1 c2) ⟨ho, ?_⟩⟩)
    refine ⟨.ref s.heap.objs.size, _, I.laid (t' := s.toks) (o := .tup []) (fun b ob q => Heap.get?_push_of_some _ q) (Nat.le_refl _) ?_, rfl, q0 hx hk _ (I.hok.fresh (Nat.le_refl _))⟩
    exact ⟨Nat.zero_le _, [], .nil, IsTup.new _ _⟩
end
section
variable {I : Inf} {c : Ct} {ds : List SD} {a b : Expr} {P PA PB : D → Prop} {pos : Pos}
theorem ev_repTP (ha : EvE I c a ds PA) (hb : EvE I c b ds PB) (h : ∀ x y, PA x → PB y → ∃ l n, x = .tuple l ∧ y = .int n ∧ -(2 ^ 63) ≤ n ∧ n ≤ 1000 ∧ l.length ≤ 100 ∧ P (.tuple (List.replicate n.toNat l).flatten)) :
    EvE I c (.BinOp a .Mult b pos) ds P :=
  ev_op (r := rRepA I.K) (fun X F => by have := op_repA (X := X); rw [F.K] at this; exact this) ha hb fun d e pd pe σ G H x y s rx ry Q k => by
    obtain ⟨l, n, rfl, rfl, h1, h2, h3, hp⟩ := h d e pd pe
    obtain ⟨a1, xs, rfl, h4, l1, r1⟩ := rx.tup'
    rw [ry.int']
    have hl := r1.length
    have e : ((List.replicate n.toNat l).flatten).length = l.length * n.toNat := by simp [List.length_flatten, List.map_replicate, List.sum_replicate_nat, Nat.mul_comm]
    have hb : l.length * n.toNat ≤ 100 * 1000 := Nat.mul_le_mul h3 (by omega)
    refine ⟨a1, n, xs, rfl, rfl, ex_t s.ex h4, h1, h2, by omega, fun z => ?_, fun z hn p np => ?_, fun z hn p np => ?_⟩
    · have : (List.replicate n.toNat l).flatten = l := by
        rcases z with z | z
        · have : l = [] := List.eq_nil_of_length_eq_zero (by rw [← hl, z]; rfl)
          subst this; simp
        · subst z; simp
      rw [this] at hp
      exact k.now s rx hp
    · have : (List.replicate n.toNat l).flatten = [] := by
        rw [show n.toNat = 0 from by omega]; rfl
      rw [this] at hp
      obtain ⟨s4, x4⟩ := s.laid (o := .tup []) np
      exact k _ _ _ _ x4 s4 (.tup (SqT.of upd_same) (Nat.zero_le _) .nil) hp
    · obtain ⟨s4, x4⟩ := s.laid (o := .tup (List.replicate n.toNat xs).flatten) np
      exact k _ _ _ _ x4 s4 (.tup (SqT.of upd_same) (by rw [e]; exact hb) ((r1.rep _).mono x4.g)) hp
theorem ev_repT {l : List D} {n : Int} (ha : EvE I c a ds (· = .tuple l)) (hb : EvE I c b ds (· = .int n)) (h1 : -(2 ^ 63) ≤ n) (h2 : n ≤ 1000) (h3 : l.length ≤ 100) : EvE I c (.BinOp a .Mult b pos) ds (· = .tuple (List.replicate n.toNat l).flatten) :=
  ev_repTP ha hb fun x y hx hy => ⟨l, n, hx, hy, h1, h2, h3, rfl⟩
end
end Dl


set_option Elab.async false
set_option linter.all false
namespace Dl
open PySem L2
section
variable {I : Inf} {c : Ct} {ds : List SD} {e a b : Expr} {P PA PB : D → Prop} {pos : Pos} {A : After} {PL : List D → Prop}
theorem rs_retF (h : EvF I c e ds PL) (hr : ∀ l, PL l → A.ro l) : RunS I c (.Return (some e) pos) ds A := fun X F σ G H E s k =>
  w_ps (ps_ret pe_w) (h X F σ G H s _ fun p xs G1 H1 l x1 s1 np hg hd hl hh r1 p1 => k.ro p xs G1 H1 l s1.drop (S.h0none s np) hg hd hl hh r1 (hr l p1))
/-- name = [.. for ..] on one line, the name a plain local -/
theorem rs_setLc {i : Nat} {y : Str} {py : Pos} {elt tg iter : Expr} {ifs : List Expr} {scope : Scope} {spos : Pos} (own : List (Str × Nat)) {asg : D → List (Nat × D) → Prop} {PL : List D → Prop} {keep : D → Bool} {R : D → D → Prop}
    (hN : I.N[i]? = some y) (hyl : I.sc.names.lookup y = some .local) (hl1 : (py.line == pos.line) = true) (hny : (scope.names.any fun (n, k) => n == y && (k == .local || k == .cell)) = false)
    (hb : blkC I.N I.sc scope own = true) (hw : Walk I c tg iter ds PL) (ht : TgE (I.blk scope) tg asg) (hl : ∀ items, PL items → items.length ≤ Lm)
    (he : ∀ items, PL items → ∀ d ∈ items, ∃ as, asg d as ∧ (∀ q ∈ as, q.1 ∈ own.map (fun x : Str × Nat => x.2)) ∧ EvIs (I.blk scope) c ifs (setDs (wipeDs ds (own.map (fun x : Str × Nat => x.2))) as) (keep d) ∧ (keep d = true → EvE (I.blk scope) c elt (setDs (wipeDs ds (own.map (fun x : Str × Nat => x.2))) as) (R d)))
    (hn : ∀ items l, PL items → Made keep R items l → A.nx (ds.set i (.dat (.list l))))
    (hs : ∀ X, Fits I X → ∀ x, foldedSetIterable iter X.env x = pure x := by intros; rfl) :
    RunS I c (.Assign [.Name y py] (.ListComp elt [⟨tg, iter, ifs, 0⟩] scope pos) spos) ds A := fun X F σ G H E s k => by

  obtain ⟨wi, hi, qi⟩ := hw X F
  obtain ⟨g, hg, qg⟩ := ht
  have hk : scope.kind = .function := (blkOk_by hb).kind
  -- the value is told by ef_lc; the store by the layer's own rule, over the meaning of the whole comprehension
  have key : tLc wi g (uI (I.blk scope) ifs) (uE (I.blk scope) elt) (own.map (fun x : Str × Nat => x.2)) σ H (fun v H1 => gName i v σ H1 E.nx) := by
    have := ef_lc_core own hb hi qi hg qg hl he X F σ G H s
    exact this (fun v H1 => gName i v σ H1 E.nx) (fun p xs G1 H1 l x1 s1 np hgp hd hll hh r1 ⟨items, pl, made⟩ => by
      have no := s.noOwn np
      have s2 : S I c (upd G1 p (.lst xs)) H1 σ ds := State.know s1 hh hgp hd (.inl (S.h0none s np)) no
      exact k.nx _ (upd G1 p (.lst xs)) H1 _ (x1.g.trans (Ex.new hgp)) (State.set s2 (i := i) (sd := .dat (.list l)) rfl ⟨_, rfl, .lst upd_same hll (r1.mono (Ex.new hgp))⟩) (hn items l pl made))
  exact w_ps (ps_setLc (own := own) F.calm (by rw [F.N]; exact F.nd) (by rw [F.N]; exact hN) (by rw [F.sc]; exact hyl) (sw_true (by rw [F.sc]; exact F.kind) (by rw [F.sc]; exact hyl) hl1 hny) hi (by rw [F.N, F.sc]; exact blkOk_by hb)
    (fun s H C cl fp => hg _ (F.blk hk s H C cl fp)) (fun s H C cl fp => pts_u (F.blk hk s H C cl fp)) (fun s H C cl fp => pe_u (F.blk hk s H C cl fp)) (hs X F)) key
end
end Dl
namespace Dl
open PySem L2
section
variable {I : Inf} {c : Ct} {ds : List SD} {pos : Pos}
/-- [f(d) for d in items] -/
theorem ef_map {elt tg iter : Expr} {scope : Scope} (own : List (Str × Nat)) {asg : D → List (Nat × D) → Prop} {items : List D} (f : D → D)
    (hb : blkC I.N I.sc scope own = true) (hw : Walk I c tg iter ds (· = items)) (ht : TgE (I.blk scope) tg asg) (hl : items.length ≤ Lm)
    (he : ∀ d ∈ items, ∃ as, asg d as ∧ (∀ q ∈ as, q.1 ∈ own.map (fun x : Str × Nat => x.2)) ∧ EvE (I.blk scope) c elt (setDs (wipeDs ds (own.map (fun x : Str × Nat => x.2))) as) (· = f d))
    (hs : ∀ X, Fits I X → ∀ x, foldedSetIterable iter X.env x = pure x := by intros; rfl) :
    EvF I c (.ListComp elt [⟨tg, iter, [], 0⟩] scope pos) ds (· = items.map f) := fun X F σ G H s Q k =>
  ef_lc (pos := pos) own (keep := fun _ => true) (R := fun x y => y = f x) hb hw ht (fun l e => by rw [e]; exact hl) (fun l e d hd => by
    subst e
    obtain ⟨as, h1, h2, h3⟩ := he d hd
    exact ⟨as, h1, h2, ei_nil, fun _ => h3⟩) hs X F σ G H s Q fun p xs G' H' l x1 s1 np hg hd hl' hh r ⟨it, e, made⟩ => k p xs G' H' l x1 s1 np hg hd hl' hh r (by subst e; exact made.map)
/-- [f(d) for d in items if keep(d)] -/
theorem ef_filter {elt tg iter t : Expr} {scope : Scope} (own : List (Str × Nat)) {asg : D → List (Nat × D) → Prop} {items : List D} (keep : D → Bool) (f : D → D)
    (hb : blkC I.N I.sc scope own = true) (hw : Walk I c tg iter ds (· = items)) (ht : TgE (I.blk scope) tg asg) (hl : items.length ≤ Lm)
    (he : ∀ d ∈ items, ∃ as, asg d as ∧ (∀ q ∈ as, q.1 ∈ own.map (fun x : Str × Nat => x.2)) ∧ EvT (I.blk scope) c t (setDs (wipeDs ds (own.map (fun x : Str × Nat => x.2))) as) (· = keep d) ∧ (keep d = true → EvE (I.blk scope) c elt (setDs (wipeDs ds (own.map (fun x : Str × Nat => x.2))) as) (· = f d)))
    (hs : ∀ X, Fits I X → ∀ x, foldedSetIterable iter X.env x = pure x := by intros; rfl) :
    EvF I c (.ListComp elt [⟨tg, iter, [t], 0⟩] scope pos) ds (· = (items.filter keep).map f) := fun X F σ G H s Q k =>
  ef_lc (pos := pos) own (keep := keep) (R := fun x y => y = f x) hb hw ht (fun l e => by rw [e]; exact hl) (fun l e d hd => by
    subst e
    obtain ⟨as, h1, h2, h3, h4⟩ := he d hd
    exact ⟨as, h1, h2, ei_one h3, h4⟩) hs X F σ G H s Q fun p xs G' H' l x1 s1 np hg hd hl' hh r ⟨it, e, made⟩ => k p xs G' H' l x1 s1 np hg hd hl' hh r (by subst e; exact made.filterMap)
/-- a fresh list as data -/
theorem ev_lc {e : Expr} {l : List D} (h : EvF I c e ds (· = l)) : EvE I c e ds (· = .list l) := ev_fresh h fun m hm => by rw [hm]
/-- the function on data that a function on ints is -/
def intF (g : Int → Int) : D → D
  | .int n => .int (g n)
  | d => d
theorem map_intF (g : Int → Int) (ns : List Int) : (ns.map PyData.int).map (intF g) = (ns.map g).map PyData.int := by
  rw [List.map_map, List.map_map]; rfl
end
end Dl


set_option Elab.async false
set_option linter.all false
namespace Dl
open PySem L2
section
variable {I : Inf} {c : Ct} {ds : List SD} {a b : Expr} {pos : Pos} {A : After} {P PA PB : D → Prop} {PL : List D → Prop}
/-- x, y = a, b -/
theorem rs_par {i j : Nat} {x y : Str} {px py pt : Pos} {kt k2 pt2} (hi : I.N[i]? = some x) (hj : I.N[j]? = some y) (hij : i ≠ j) (hx : I.sc.names.lookup x = some .local) (hy : I.sc.names.lookup y = some .local)
    (ha : EvE I c a ds PA) (hb : EvE I c b ds PB) (hn : ∀ d e, PA d → PB e → A.nx ((ds.set i (.dat d)).set j (.dat e)))
    (hs1 : ∀ X, Fits I X → starEach [a, b] X.env = (false, eval a X.env) :: starEach [b] X.env := by intros; rfl) (hs2 : ∀ X, Fits I X → starEach [b] X.env = (false, eval b X.env) :: starEach [] X.env := by intros; rfl)
    (hw : ∀ env : Env, env.scope = I.sc → swappedStores [.Tuple [.Name x px, .Name y py] kt pt] (.Tuple [a, b] k2 pt2) env = pure (some [x, y]) := by intro env h; cases env; dsimp only at h; subst h; rfl)
    (hs : ∀ X, Fits I X → swapsWithSole [.Tuple [.Name x px, .Name y py] kt pt] (.Tuple [a, b] k2 pt2) pos.line X.env = pure false := by intros; rfl) :
    RunS I c (.Assign [.Tuple [.Name x px, .Name y py] kt pt] (.Tuple [a, b] k2 pt2) pos) ds A := fun X F σ G H E s k => by
  refine w_ps (ps_par (i := i) (j := j) F.calm (by rw [F.N]; exact F.nd) (by rw [F.N]; exact hi) (by rw [F.N]; exact hj) hij (by rw [F.sc]; exact hx) (by rw [F.sc]; exact hy) (pa_cons pe_w (pa_cons pe_w pa_nil (hs2 X F)) (hs1 X F)) (hw X.env F.sc) (hs X F)) ?_
  refine ha X F σ G H s _ fun v G1 H1 d x1 s1 r1 p1 => hb X F σ G1 H1 s1 _ fun w G2 H2 e x2 s2 r2 p2 => ?_
  refine ⟨v, w, rfl, k.nx _ G2 H2 _ (x1.g.trans x2.g) ?_ (hn d e p1 p2)⟩
  exact State.set (State.set s2 (i := i) (sd := .dat d) rfl ⟨v, rfl, r1.mono x2.g⟩) (i := j) (sd := .dat e) rfl ⟨w, rfl, r2⟩
/-- x, y = a, b, a a fresh list -/
theorem rs_parF {i j : Nat} {x y : Str} {px py pt : Pos} {kt k2 pt2} (hi : I.N[i]? = some x) (hj : I.N[j]? = some y) (hij : i ≠ j) (hx : I.sc.names.lookup x = some .local) (hy : I.sc.names.lookup y = some .local)
    (ha : EvF I c a ds PL) (hb : EvE I c b ds PB) (hn : ∀ l e, PL l → PB e → A.nx ((ds.set i (.own l)).set j (.dat e)))
    (hs1 : ∀ X, Fits I X → starEach [a, b] X.env = (false, eval a X.env) :: starEach [b] X.env := by intros; rfl) (hs2 : ∀ X, Fits I X → starEach [b] X.env = (false, eval b X.env) :: starEach [] X.env := by intros; rfl)
    (hw : ∀ env : Env, env.scope = I.sc → swappedStores [.Tuple [.Name x px, .Name y py] kt pt] (.Tuple [a, b] k2 pt2) env = pure (some [x, y]) := by intro env h; cases env; dsimp only at h; subst h; rfl)
    (hs : ∀ X, Fits I X → swapsWithSole [.Tuple [.Name x px, .Name y py] kt pt] (.Tuple [a, b] k2 pt2) pos.line X.env = pure false := by intros; rfl) :
    RunS I c (.Assign [.Tuple [.Name x px, .Name y py] kt pt] (.Tuple [a, b] k2 pt2) pos) ds A := fun X F σ G H E s k => by
  refine w_ps (ps_par (i := i) (j := j) F.calm (by rw [F.N]; exact F.nd) (by rw [F.N]; exact hi) (by rw [F.N]; exact hj) hij (by rw [F.sc]; exact hx) (by rw [F.sc]; exact hy) (pa_cons pe_w (pa_cons pe_w pa_nil (hs2 X F)) (hs1 X F)) (hw X.env F.sc) (hs X F)) ?_
  refine ha X F σ G H s _ fun p xs G1 H1 l x1 s1 np hg hd hl hh r1 p1 => hb X F σ G1 H1 s1 _ fun w G2 H2 e x2 s2 r2 p2 => ?_
  have hg2 : G2 p = none := by
    cases z : G2 p with
    | none => rfl
    | some o =>
      rcases x2.nw p (by rw [z]; exact fun q => nomatch q) with q | q
      · exact absurd hg q
      · rw [hh] at q; cases q
  have so := own_new (i := i) s s2 np hg2 hl (x2.h _ _ hh hd) (r1.mono x2.g)
  exact ⟨.ref p, w, rfl, k.nx _ G2 H2 _ (x1.g.trans x2.g) (State.set so (i := j) (sd := .dat e) rfl ⟨w, rfl, r2⟩) (hn l e p1 p2)⟩
theorem ev_eqI {i j : Int} (ha : EvE I c a ds (· = .int i)) (hb : EvE I c b ds (· = .int j)) : EvE I c (.Compare a [.Eq] [b] pos) ds (· = .bool (decide (i = j))) :=
  ev_cmp (fun _ _ => op_eq) (nobehind _ (by decide) (by decide)) ha hb fun d e hi hj => by
    rw [hi, hj]; intro σ G H x y s rx ry Q k; rw [rx.int', ry.int']
    refine ⟨rfl, k.now s .bl ?_⟩
    congr 1; exact decide_eq_decide.mpr ⟨fun h => by injection h, fun h => by rw [h]⟩
end
end Dl


set_option Elab.async false
set_option linter.all false
namespace Dl
open PySem L2
/-- the first argument is a list that is given away; a tuple comes back whose third item is a fresh list -/
def spG (K : Frag) (Pc : List D → List AD → (D → D → List D → Prop) → Prop) : Sp := fun vs H Q _ => ∃ (Z : Zone) (G : Hp) (p : Addr) (xs : List V) (l : List D) (ws : List V) (ads : List AD) (R : D → D → List D → Prop),
  vs = .ref p :: ws ∧ Z.given = some p ∧ Ex G H ∧ DeckIn Z G H ∧ G p = none ∧ ¬ inDeck Z p ∧ H p = some (.lst xs) ∧ RpA K G l xs ∧ l.length ≤ Lm ∧ ArgsRp K Z G ads ws ∧ Pc l ads R ∧
  ∀ t b xs v1 v2 G' H' d1 d2 l', State K Z G H G' H' [] [] → H b = none → G' b = none → ¬ inDeck Z b → l'.length ≤ Lm → H' b = some (.lst xs) → RpA K G' l' xs → H' t = some (.tup [v1, v2, .ref b]) → Rp K G' d1 v1 → Rp K G' d2 v2 → R d1 d2 l' → Q (.ref t) H'
theorem State.startG {K : Frag} {Z : Zone} {G H : Hp} {p : Addr} {xs : List V} {l : List D} {ads : List AD} {ws : List V} {N : List Str} (hz : Z.given = some p) (ex : Ex G H) (hd : DeckIn Z G H) (hg : G p = none) (hnd : ¬ inDeck Z p) (hh : H p = some (.lst xs)) (rl : RpA K G l xs) (hl : l.length ≤ Lm)
    (r : ArgsRp K Z G ads ws) (hn : ads.length + 1 ≤ N.length) : State K Z G H G H (L2.start N (.ref p :: ws)) (.own l :: startD ads (N.length - 1)) := by
  have hlen := r.length
  have h1 : ∀ i, (L2.start N (.ref p :: ws))[i + 1]? = (ws.map some ++ List.replicate (N.length - 1 - ws.length) none)[i]? := by
    intro i
    unfold L2.start
    rw [List.map_cons, List.cons_append, List.getElem?_cons_succ]
    congr 2
    simp; omega
  refine ⟨ex, Ex.refl _, fun p h => .inl h, fun a o h _ => h, hd, ?_, fun q h => (by rw [hz] at h; cases h; rw [hh]; exact fun z => nomatch z), fun i sd h => ?_, fun i j d1 d2 q hij h g h3 => ?_⟩
  · unfold L2.start startD; simp [hlen]; omega
  · cases i with
    | zero =>
      simp at h; subst h
      exact ⟨p, xs, rfl, .inr hz, hg, hnd, hl, hh, rl⟩
    | succ i =>
      rw [List.getElem?_cons_succ] at h
      rw [h1]
      unfold startD at h
      by_cases hi : i < ads.length
      · rw [List.getElem?_append_left (by simpa using hi), List.getElem?_map] at h
        cases e : ads[i]? with
        | none => rw [e] at h; cases h
        | some a =>
          rw [e] at h; cases h
          obtain ⟨v, g1, g2⟩ := r.get e
          rw [List.getElem?_append_left (by simp; omega), List.getElem?_map, g1]
          cases a with
          | dat d => exact ⟨v, rfl, g2⟩
          | deck => obtain ⟨dk, cc, h3, h4⟩ := g2; exact ⟨dk, cc, h3, by rw [h4]; rfl⟩
      · rw [List.getElem?_append_right (by simpa using hi), List.getElem?_replicate] at h
        split at h
        · cases h; trivial
        · cases h
  · have noOwn : ∀ {m : Nat} {dd : List D}, (SD.own l :: startD ads (N.length - 1))[m]? = some (.own dd) → m = 0 := by
      intro m dd hm
      cases m with
      | zero => rfl
      | succ m =>
        exfalso
        rw [List.getElem?_cons_succ] at hm
        unfold startD at hm
        by_cases hi : m < ads.length
        · rw [List.getElem?_append_left (by simpa using hi), List.getElem?_map] at hm
          cases e : ads[m]? with
          | none => rw [e] at hm; cases hm
          | some a => rw [e] at hm; cases a <;> cases hm
        · rw [List.getElem?_append_right (by simpa using hi), List.getElem?_replicate] at hm
          split at hm <;> cases hm
    exact absurd ((noOwn h).trans (noOwn g).symm) hij
section
variable {P : Program} {w : World} {K : Frag} {mg : Str → Option Value} {base : Heap} {x qual : Str} {st : Stmt} {f : Addr} {fd : FuncData} {N ps : List Str} {k : Nat}
theorem fn_mkG {Pc : List D → List AD → (D → D → List D → Prop) → Prop} (F : Fun K x qual st f fd) (Sc : FnScope N ps (defScope st)) (hl : ∀ l ads R, Pc l ads R → ads.length + 1 = ps.length)
    (body : ∀ (c : Ct) (l : List D) (ads : List AD) (R : D → D → List D → Prop), Pc l ads R → Run ⟨P, w, K, mg, base, N, defScope st, k, fun _ => true, false⟩ c (defBody st) (.own l :: startD ads (N.length - 1)) { nx := fun _ => False, rt := fun _ => False, r3 := R }) :
    FnOk P w K mg base CX0 (k + 1) f fd ps (spG K Pc) := by
  refine F.ok Sc (fun vs H Q E h => ?_) (fun cdv A outer s H vs Q E hr h => ?_)
  · obtain ⟨Z, G, p, xs, l, ws, ads, R, rfl, _, _, _, _, _, _, _, _, r, hc, _⟩ := h
    rw [List.length_cons, r.length]; exact hl l ads R hc
  · obtain ⟨Z, G, p, xs, l, ws, ads, R, rfl, hz, ex, hd, hg, hnd, hh, rl, hlen, r, hc, q⟩ := h
    refine ⟨_, pss_w, ?_⟩
    exact body ⟨Z, G, H⟩ l ads R hc _ (fits_def Sc hr) _ G H _ (State.startG hz ex hd hg hnd hh rl hlen r (by rw [hl l ads R hc]; exact pre_le Sc)) ⟨fun σ' G' H' ds' e s' n => n.elim, fun _ _ _ _ _ _ z => z.elim, fun _ _ _ _ _ _ z => z.elim,
      fun v G' H' d s' r' n => n.elim, fun p xs G' H' l s' a1 a2 a3 a4 a5 a6 n => n.elim, fun t b xs v1 v2 G' H' d1 d2 l s' a1 a2 a3 a4 a5 a6 a7 a8 a9 m => q t b xs v1 v2 G' H' d1 d2 l s' a1 a2 a3 a4 a5 a6 a7 a8 a9 m⟩
end
section
variable {I : Inf} {c : Ct} {ds : List SD} {e e1 e2 e3 : Expr} {es : List Expr} {pos : Pos} {A : After}
/-- return (a, b, a fresh list) -/
theorem rs_ret3 {P1 P2 : D → Prop} {PL : List D → Prop} {x1 : Nat} {p : Pos} (h1 : EvE I c e1 ds P1) (h2 : EvE I c e2 ds P2) (h3 : EvF I c e3 ds PL) (hr : ∀ a b l, P1 a → P2 b → PL l → A.r3 a b l)
    (hs1 : ∀ X, Fits I X → starEach [e1, e2, e3] X.env = (false, eval e1 X.env) :: starEach [e2, e3] X.env := by intros; rfl) (hs2 : ∀ X, Fits I X → starEach [e2, e3] X.env = (false, eval e2 X.env) :: starEach [e3] X.env := by intros; rfl)
    (hs3 : ∀ X, Fits I X → starEach [e3] X.env = (false, eval e3 X.env) :: starEach [] X.env := by intros; rfl) : RunS I c (.Return (some (.Tuple [e1, e2, e3] x1 p)) pos) ds A := fun X F σ G H E s k => by
  refine w_ps (ps_ret (pe_tup (pa_cons pe_w (pa_cons pe_w (pa_cons pe_w pa_nil (hs3 X F)) (hs2 X F)) (hs1 X F)))) ?_
  refine h1 X F σ G H s _ fun v1 G1 H1 d1 x1 s1 r1 p1 => h2 X F σ G1 H1 s1 _ fun v2 G2 H2 d2 x2 s2 r2 p2 => h3 X F σ G2 H2 s2 _ fun b xs G3 H3 l x3 s3 np hg hd hl hh r3 p3 => ?_
  refine ⟨by show 3 ≤ sizeLine; decide, fun t nt => ?_⟩
  have tb : b ≠ t := by rintro rfl; rw [hh] at nt; cases nt
  exact k.r3 t b xs v1 v2 G3 _ d1 d2 l (State.aside s3 nt).drop (S.h0none s2 np) hg hd hl (by rw [upd_ne tb]; exact hh) r3 upd_same (r1.mono (x2.g.trans x3.g)) (r2.mono x3.g) (hr d1 d2 l p1 p2 p3)
/-- an owned list's slot -/
theorem own_newer {σ : St} {G H : Hp} {i : Nat} {p : Addr} {xs : List V} {l : List D} (s' : S I c G H σ ds) (no : NoOwn σ ds p) (h0 : c.H0 p = none ∨ c.Z.given = some p) (hg : G p = none) (hnd : ¬ inDeck c.Z p) (hl : l.length ≤ Lm) (hh : H p = some (.lst xs)) (r : RpA I.K G l xs) :
    S I c G H (σ.set i (some (.ref p))) (ds.set i (.own l)) := by
  refine ⟨s'.ex, s'.exg, s'.nw, s'.exm, s'.deck, by simp [s'.len], s'.giv, fun j sd h => ?_, fun j k d1 d2 q hjk g1 g2 g3 => ?_⟩
  · by_cases e : j = i
    · subst e
      have hlt : j < ds.length := by
        rcases Nat.lt_or_ge j ds.length with h0 | h0
        · exact h0
        · rw [List.getElem?_eq_none (by simp; exact h0)] at h; cases h
      rw [List.getElem?_set_self hlt] at h; cases h
      rw [List.getElem?_set_self (by rw [s'.len]; exact hlt)]
      exact ⟨p, xs, rfl, h0, hg, hnd, hl, hh, r⟩
    · rw [List.getElem?_set_ne (Ne.symm e)] at *; exact s'.slots j sd h
  · by_cases e1 : j = i
    · subst e1
      have hlt : j < σ.length := by
        rcases Nat.lt_or_ge j σ.length with h0 | h0
        · exact h0
        · rw [List.getElem?_eq_none (by simp; exact h0)] at g3; cases g3
      rw [List.getElem?_set_self hlt] at g3; cases g3
      rw [List.getElem?_set_ne hjk] at *
      exact no k d2 g2
    · rw [List.getElem?_set_ne (Ne.symm e1)] at g1 g3
      by_cases e2 : k = i
      · subst e2
        intro z
        have hlt : k < σ.length := by
          rcases Nat.lt_or_ge k σ.length with h0 | h0
          · exact h0
          · rw [List.getElem?_eq_none (by simp; exact h0)] at z; cases z
        rw [List.getElem?_set_self hlt] at z; cases z
        exact no j d1 g1 g3
      · rw [List.getElem?_set_ne (Ne.symm e2)] at *
        exact s'.dist j k d1 d2 q hjk g1 g2 g3
/-- x, y, z = f(a fresh list, ..) -/
theorem rs_callG {i j m : Nat} {x y z fn : Str} {px py pz pt p p2 : Pos} {kk : Nat} {Pc : List D → List AD → (D → D → List D → Prop) → Prop} {PL : List D → Prop} {PA : List AD → Prop} (hx : Sto I i x) (hy : Sto I j y) (hz : Sto I m z)
    (hf : FnS I fn (spG I.K Pc)) (hg : I.sc.names.lookup fn = some .globalImplicit) (h0 : EvF I c e ds PL) (ha : EvAD I c es ds PA)
    (h : ∀ l ads, PL l → PA ads → ∃ R, Pc l ads R ∧ ∀ a b t, R a b t → A.nx (((ds.set i (.dat a)).set j (.dat b)).set m (.own t))) (hdb : (fn == ("__debug__" : Str)) = false := by decide)
    (he : ∀ X, Fits I X → starEach (e :: es) X.env = (false, eval e X.env) :: starEach es X.env := by intros; rfl) (hpl : ∀ X, Fits I X → (backTo p2 (starEach es X.env)).any (·.1) = false := by intros; rfl)
    (hs : ∀ X, Fits I X → swapsWithSole [.Tuple [.Name x px, .Name y py, .Name z pz] kk pt] (.Call (.Name fn p) (e :: es) [] p2) pos.line X.env = pure false := by intros; rfl) (hw : ∀ X, Fits I X → swappedStores [.Tuple [.Name x px, .Name y py, .Name z pz] kk pt] (.Call (.Name fn p) (e :: es) [] p2) X.env = pure none := by intros; rfl)
    (h1 : ∀ X, Fits I X → (assignEach [.Tuple [.Name x px, .Name y py, .Name z pz] kk pt] X.env).map (·.2) = [assign (.Tuple [.Name x px, .Name y py, .Name z pz] kk pt) X.env] := by intros; rfl) :
    RunS I c (.Assign [.Tuple [.Name x px, .Name y py, .Name z pz] kk pt] (.Call (.Name fn p) (e :: es) [] p2) pos) ds A := fun X F σ G H E s k => by
  obtain ⟨f, fd, ps, hmf, hk, hb, G0⟩ := hf.ok
  have GG : FnOk X.prog X.w X.K X.mg X.base CX0 I.k f fd ps (spG I.K Pc) := by rw [F.prog, F.w, F.K, F.mg, F.base]; exact G0
  have tg := pg_tup (k := kk) (pos := pt) F.calm (pgs_cons (pg_name (pos := px) (i := i) (by rw [F.N]; exact F.nd) (by rw [F.N]; exact hx.at_) (by rw [F.sc]; exact hx.loc) (hx.fn F)) (pgs_cons (pg_name (pos := py) (i := j) (by rw [F.N]; exact F.nd) (by rw [F.N]; exact hy.at_) (by rw [F.sc]; exact hy.loc) (hy.fn F)) (pgs_cons (pg_name (pos := pz) (i := m) (by rw [F.N]; exact F.nd) (by rw [F.N]; exact hz.at_) (by rw [F.sc]; exact hz.loc) (hz.fn F)) pgs_nil)))
  refine w_ps (ps_asg (pe_call GG F.room (by show X.env.scope.names.lookup fn = _; rw [F.sc]; exact hg) (by rw [F.mg]; exact hmf) (by rw [F.K]; exact hk) (by rw [F.K]; exact hb) .nil pass0 (pa_cons pe_w pa_w (he X F)) hdb (he X F) (hpl X F)) tg (hs X F) (hw X F) (h1 X F)) ?_
  refine h0 X F σ G H s _ fun p xs G1 H1 l x1 s1 np hgp hd hl hh r1 p1 => ?_
  refine ha X F σ G1 H1 s1 _ fun vs G2 H2 ads x2 s2 r2 p2 => ?_
  obtain ⟨R, hc, hn⟩ := h l ads p1 p2
  have hg2 : G2 p = none := by
    cases z : G2 p with
    | none => rfl
    | some o =>
      rcases x2.nw p (by rw [z]; exact fun q => nomatch q) with q | q
      · exact absurd hgp q
      · rw [hh] at q; cases q
  rw [List.append_nil]
  refine ⟨{ deck := c.Z.deck, given := some p }, G2, p, xs, l, vs, ads, R, rfl, rfl, s2.ex, s2.deck, hg2, hd, x2.h _ _ hh hd, r1.mono x2.g, hl, ArgsRp.zone (Z := c.Z) (Z' := { deck := c.Z.deck, given := some p }) rfl r2, hc, fun t b xb v1 v2 G' H' d1 d2 lb t' nb hgb hdb' hlb hhb rb ht rv1 rv2 hR => ?_⟩
  -- what the call has done, seen from ahead of its arguments
  have hne : ∀ a o, H a = some o → a ≠ p := fun a o q z => by subst z; rw [np] at q; cases q
  have gr : Gr c.Z G H G' H' := by
    refine ⟨(x1.trans x2).g.trans t'.exg, fun a o q z => ?_, fun a q => ?_, fun a q z => ?_⟩
    · exact t'.exm a o ((x1.trans x2).h a o q z) (by
        rintro (w | w)
        · exact z w
        · exact hne a o q (Option.some.inj w).symm)
    · rcases t'.nw a q with w | w | w
      · exact (x1.trans x2).nw a w
      · right
        cases e : H a with
        | none => rfl
        | some o => exact absurd w ((x1.trans x2).dom a (by rw [e]; exact fun z => nomatch z))
      · right; cases w; exact np
    · have q2 := (x1.trans x2).dom a q
      by_cases w : inZ { deck := c.Z.deck, given := some p } a
      · rcases w with w | w
        · exact (t'.deck.ne w).1 z
        · exact t'.giv a w z
      · cases e : H2 a with
        | none => exact q2 e
        | some o => rw [t'.exm a o e w] at z; cases z
  have st : State I.K c.Z c.G0 c.H0 G' H' [] [] := by
    refine ⟨t'.ex, s.exg.trans gr.g, fun a q => ?_, fun a o q z => gr.h a o (s.exm a o q z) (fun w => z (.inl w)), t'.deck, rfl, fun a q => gr.dom a (s.giv a q), fun i sd q => by simp at q, fun i j d1 d2 q _ w => by simp at w⟩
    rcases gr.nw a q with w | w
    · exact s.nw a w
    · right; left; exact S.h0none s w
  have s' : S I c G' H' σ ds := State.regrow s st gr
  have nb0 : H b = none := by
    cases e : H b with
    | none => rfl
    | some o => exact absurd nb ((x1.trans x2).dom b (by rw [e]; exact fun z => nomatch z))
  have a1 : S I c G' H' (σ.set i (some v1)) (ds.set i (.dat d1)) := State.set s' (i := i) (sd := .dat d1) rfl ⟨v1, rfl, rv1⟩
  have a2 : S I c G' H' ((σ.set i (some v1)).set j (some v2)) ((ds.set i (.dat d1)).set j (.dat d2)) := State.set a1 (i := j) (sd := .dat d2) rfl ⟨v2, rfl, rv2⟩
  have b1 : S I c G H (σ.set i (some (.non))) (ds.set i (.dat .none)) := State.set s (i := i) (sd := .dat .none) rfl ⟨.non, rfl, .non⟩
  have a3 : S I c G' H' (((σ.set i (some v1)).set j (some v2)).set m (some (.ref b))) (((ds.set i (.dat d1)).set j (.dat d2)).set m (.own lb)) := by
    refine own_newer a2 ((State.noOwn s nb0).set.set) (.inl (S.h0none s nb0)) hgb hdb' hlb hhb rb
  refine ⟨t, [v1, v2, .ref b], rfl, .inl (.inl ht), rfl, v1, [v2, .ref b], rfl, v2, [.ref b], rfl, .ref b, [], rfl, rfl, ?_⟩
  exact k.nx _ G' H' _ gr.g a3 (hn d1 d2 lb hR)
end
theorem wk_is {I : Inf} {c : Ct} {ds : List SD} {tg iter : Expr} {l l' : List D} (h : Walk I c tg iter ds (· = l)) (e : l = l') : Walk I c tg iter ds (· = l') := by rw [← e]; exact h
section
variable {I : Inf} {c : Ct} {ds : List SD} {a b : Expr} {pos : Pos} {A : After}
/-- x, y = a fresh list, b: by way of a tuple -/
theorem rs_tup2F {i j : Nat} {x y : Str} {px py pt : Pos} {kk : Nat} {k2 pt2} {PL : List D → Prop} {PB : D → Prop} (hx : Sto I i x) (hy : Sto I j y)
    (ha : EvF I c a ds PL) (hb : EvE I c b ds PB) (hn : ∀ l e, PL l → PB e → A.nx ((ds.set i (.own l)).set j (.dat e)))
    (hs1 : ∀ X, Fits I X → starEach [a, b] X.env = (false, eval a X.env) :: starEach [b] X.env := by intros; rfl) (hs2 : ∀ X, Fits I X → starEach [b] X.env = (false, eval b X.env) :: starEach [] X.env := by intros; rfl)
    (hw : ∀ env : Env, env.scope = I.sc → swappedStores [.Tuple [.Name x px, .Name y py] kk pt] (.Tuple [a, b] k2 pt2) env = pure none := by intro env h; cases env; dsimp only at h; subst h; rfl)
    (hs : ∀ X, Fits I X → swapsWithSole [.Tuple [.Name x px, .Name y py] kk pt] (.Tuple [a, b] k2 pt2) pos.line X.env = pure false := by intros; rfl)
    (h1 : ∀ X, Fits I X → (assignEach [.Tuple [.Name x px, .Name y py] kk pt] X.env).map (·.2) = [assign (.Tuple [.Name x px, .Name y py] kk pt) X.env] := by intros; rfl) :
    RunS I c (.Assign [.Tuple [.Name x px, .Name y py] kk pt] (.Tuple [a, b] k2 pt2) pos) ds A := fun X F σ G H E s k => by
  have tg := pg_tup (k := kk) (pos := pt) F.calm (pgs_cons (pg_name (pos := px) (i := i) (by rw [F.N]; exact F.nd) (by rw [F.N]; exact hx.at_) (by rw [F.sc]; exact hx.loc) (hx.fn F)) (pgs_cons (pg_name (pos := py) (i := j) (by rw [F.N]; exact F.nd) (by rw [F.N]; exact hy.at_) (by rw [F.sc]; exact hy.loc) (hy.fn F)) pgs_nil))
  refine w_ps (ps_asg (pe_tup (pa_cons pe_w (pa_cons pe_w pa_nil (hs2 X F)) (hs1 X F))) tg (hs X F) (hw X.env F.sc) (h1 X F)) ?_
  refine ha X F σ G H s _ fun p xs G1 H1 l x1 s1 np hg hd hl hh r1 p1 => hb X F σ G1 H1 s1 _ fun v G2 H2 e x2 s2 r2 p2 => ?_
  refine ⟨by show 2 ≤ sizeLine; decide, fun t nt => ?_⟩
  have hg2 : G2 p = none := by
    cases z : G2 p with
    | none => rfl
    | some o =>
      rcases x2.nw p (by rw [z]; exact fun q => nomatch q) with q | q
      · exact absurd hg q
      · rw [hh] at q; cases q
  have hh2 : H2 p = some (.lst xs) := x2.h _ _ hh hd
  have tp : p ≠ t := by rintro rfl; rw [hh2] at nt; cases nt
  have s3 : S I c G2 (upd H2 t (.tup [.ref p, v])) σ ds := State.aside s2 nt
  have so := own_newer (i := i) s3 (s.noOwn np) (.inl (S.h0none s np)) hg2 hd hl (by rw [upd_ne tp]; exact hh2) (r1.mono x2.g)
  refine ⟨t, [.ref p, v], rfl, SqT.of upd_same, rfl, .ref p, [v], rfl, v, [], rfl, rfl, ?_⟩
  exact k.nx _ G2 _ _ (x1.g.trans x2.g) (State.set so (i := j) (sd := .dat e) rfl ⟨v, rfl, r2⟩) (hn l e p1 p2)
end
section
variable {I : Inf} {c : Ct} {ds : List SD} {pos : Pos}
/-- list(x), x an owned list -/
theorem ev_listO {i : Nat} {x : Str} {l : List D} {p p2 : Pos} (hg : I.sc.names.lookup ("list" : Str) = some .globalImplicit) (hm : I.mg "list" = none) (hN : I.N[i]? = some x) (hv : Vis I.sc x) (ho : ds[i]? = some (.own l))
    (h1 : (x == ("__debug__" : Str)) = false := by decide) (h2 : (x == ("__classdict__" : Str)) = false := by decide) : EvE I c (.Call (.Name "list" p) [.Name x p2] [] pos) ds (· = .list l) := fun X F σ G H s Q k => by
  have hb : bootBuiltins ("list" : Str) = some (.type "list") := by decide +kernel
  refine w_pe (pe_callTy call_list_of (by show X.env.scope.names.lookup _ = _; rw [F.sc]; exact hg) (by rw [F.mg]; exact hm) hb (pa_cons (pe_var (i := i) (by rw [F.N]; exact hN) (by rw [F.sc]; exact hv) h1 h2) pa_nil)) ?_
  obtain ⟨q, xs, e1, h0, h3, h4, h5, h6, h7⟩ := own_at s ho
  refine ⟨.ref q, e1, q, xs, rfl, .inl (SqL.of h6), fun p np => ?_⟩
  obtain ⟨s4, x4⟩ := s.laid (o := .lst xs) np
  exact k _ _ _ _ x4 s4 (.lst upd_same h5 (h7.mono x4.g)) rfl
end
end Dl


set_option Elab.async false
set_option maxRecDepth 100000
set_option linter.all false
set_option maxHeartbeats 2000000
namespace Dl
open PySem PySem.Spec PyProof.Rows L2
section
variable {I : Inf} {c : Ct} {ds : List SD} {A : After} {st : Stmt} {rest : List Stmt} {e : Expr} {P : D → Prop} {pos : Pos} {d : D}
/-- a statement that is an expression -/
theorem rs_expr (h : EvE I c e ds P) (hn : A.nx ds) (hs : ∀ X, Fits I X → swapsWith e none pos.line X.env = pure false := by intros; rfl) : RunS I c (.Expr e pos) ds A := fun X F σ G H E s k =>
  w_ps (ps_expr pe_w (hs X F)) (h X F σ G H s _ fun v G1 H1 d x1 s1 r1 p1 => k.nx σ G1 H1 ds x1.g s1 hn)

/-! ### defs with a star parameter -/
structure FnVS (I : Inf) (x : Str) (sp : Sp) : Prop where
  ok : ∃ (f : Addr), I.mg x = some (.ref f) ∧ PySem.W.keepIn I.K (.ref f) = true ∧ FnR I.prog I.w I.K I.mg I.base CX0 I.k f sp
theorem pe_callR {X : Cx} {CX : CXT} {k : Nat} {f : Addr} {sp : Sp} {E : XK} {x : Str} {es : List Expr} {t : TA} {p : Pos} (F : FnR X.prog X.w X.K X.mg X.base CX k f sp) (hr : Room k X.A) (hg : Gl X x) (hm : X.mg x = some (.ref f)) (hk : PySem.W.keepIn X.K (.ref f) = true) (hx : Passes CX X E)
    (ha : PA X (e :: es) t) (hdb : (x == ("__debug__" : Str)) = false := by decide) (he : starEach (e :: es) X.env = (false, eval e X.env) :: starEach es X.env := by rfl) (hpl : (backTo pos (starEach es X.env)).any (·.1) = false := by rfl) :
    PE X (.Call (.Name x p) (e :: es) [] pos) (fun σ H Q => t σ H fun vs H1 => sp vs H1 Q E) := by
  refine ⟨fun pins s σ H Q I h => ?_⟩
  refine wpAny_Call_Name_kw (ld_glob I hg hm ?_ hdb)
  refine PySem.W.callWith_K (h₀ := X.base) I.ok.mod.kin hk (thn (ha.run pos pins s σ H _ I h) fun us s1 ⟨vs, H1, I1, r, q⟩ => ⟨I1.kIn, ?_⟩) he hpl
  exact wpAny_call (run_fnR F hr hx I1 r q)
theorem ev_callV {x : Str} {p : Pos} {es : List Expr} {Pc : List AD → (D → Prop) → Prop} {PA : List AD → Prop} (hf : FnVS I x (spD I.K Pc)) (hg : I.sc.names.lookup x = some .globalImplicit) (ha : EvAD I c (e :: es) ds PA)
    (h : ∀ l, PA l → ∃ R, Pc l R ∧ ∀ d, R d → P d) (hdb : (x == ("__debug__" : Str)) = false := by decide)
    (he : ∀ X, Fits I X → starEach (e :: es) X.env = (false, eval e X.env) :: starEach es X.env := by intros; rfl) (hpl : ∀ X, Fits I X → (backTo pos (starEach es X.env)).any (·.1) = false := by intros; rfl) :
    EvE I c (.Call (.Name x p) (e :: es) [] pos) ds P := fun X F σ G H s Q k => by
  obtain ⟨f, hm, hk, G0⟩ := hf.ok
  have G1 : FnR X.prog X.w X.K X.mg X.base CX0 I.k f (spD I.K Pc) := by rw [F.prog, F.w, F.K, F.mg, F.base]; exact G0
  refine w_pe (pe_callR G1 F.room (by show X.env.scope.names.lookup x = _; rw [F.sc]; exact hg) (by rw [F.mg]; exact hm) (by rw [F.K]; exact hk) pass0 pa_w hdb (he X F) (hpl X F)) ?_
  refine ha X F σ G H s _ fun vs G1 H1 l x1 s1 r1 p1 => ?_
  obtain ⟨R, hc, hp⟩ := h l p1
  refine ⟨{ deck := c.Z.deck }, G1, l, R, rfl, s1.ex, s1.deck, ArgsRp.zone (Z := c.Z) (Z' := { deck := c.Z.deck }) rfl r1, hc, fun v G' H' d t r q => ?_⟩
  obtain ⟨s2, gr⟩ := State.after s1 t rfl (.inr rfl)
  exact k v G' H' d (x1.trans gr) s2 r (hp d q)
end
theorem start_set {N : List Str} {ws : List V} {v : V} (h : ws.length < N.length) : (L2.start N ws).set ws.length (some v) = L2.start N (ws ++ [v]) := by
  unfold L2.start
  rw [List.set_append_right _ _ (by simp), List.map_append, List.append_assoc]
  congr 1
  obtain ⟨z, hz⟩ : ∃ z, N.length - ws.length = z + 1 := ⟨N.length - ws.length - 1, by omega⟩
  simp only [List.length_map, Nat.sub_self, List.length_append, List.length_cons, List.length_nil]
  rw [show N.length - (ws.length + (0 + 1)) = z by omega, hz]
  simp [List.replicate_succ]
theorem undats {K : Frag} {Z : Zone} {G : Hp} : ∀ {rs : List D} {vs : List V}, ArgsRp K Z G (rs.map AD.dat) vs → RpA K G rs vs
  | [], vs, h => by
    have h2 : vs = [] := h
    subst h2; exact RpA.nil
  | r :: rs, vs, h => by
    obtain ⟨v, ws, rfl, h1, h2⟩ := h
    exact RpA.cons h1 (undats h2)
theorem args_split {K : Frag} {Z : Zone} {G : Hp} {rs : List D} : ∀ {as : List AD} {vs : List V}, ArgsRp K Z G (as ++ rs.map AD.dat) vs → ∃ ws rest, vs = ws ++ rest ∧ ArgsRp K Z G as ws ∧ RpA K G rs rest
  | [], vs, h => ⟨[], vs, rfl, rfl, undats h⟩
  | a :: as, vs, h => by
    obtain ⟨v, ws, rfl, h1, h2⟩ := h
    obtain ⟨us, rest, rfl, h3, h4⟩ := args_split (as := as) h2
    exact ⟨v :: us, rest, rfl, ⟨v, us, rfl, h1, h3⟩, h4⟩
section
variable {P : Program} {w : World} {K : Frag} {mg : Str → Option Value} {base : Heap} {x qual : Str} {st : Stmt} {f : Addr} {fd : FuncData} {N ps : List Str} {k : Nat}
theorem fn_mkV {pv : Str} {Pc : List AD → (D → Prop) → Prop} (F : Fun K x qual st f fd) (Sc : FnScope N (ps ++ [pv]) (defScope st))
    (hsp : ∀ ads R, Pc ads R → ∃ (as : List AD) (rs : List D), ads = as ++ rs.map AD.dat ∧ as.length = ps.length ∧ rs.length ≤ Lm)
    (hb : ∀ (kV doc pm : Value) (an : Option Addr) (cdv ct : Value) (us rest : List Value), us.length = ps.length → bindArgs (PySem.W.fnOf x qual (defArgs st) (defBody st) (defScope st) .none kV doc pm an cdv ct) ⟨us ++ rest, []⟩ = (newTuple rest >>= fun t => pure (ps.zip us ++ [(pv, t)])))
    (body : ∀ (c : Ct) (as : List AD) (rs : List D) (R : D → Prop), Pc (as ++ rs.map AD.dat) R → as.length = ps.length → c.Z.given = none →
      Run ⟨P, w, K, mg, base, N, defScope st, k, fun _ => true, false⟩ c (defBody st) ((startD as N.length).set as.length (.dat (.tuple rs))) { nx := fun _ => R .none, rt := R, ro := fun l => R (.list l) }) :
    FnR P w K mg base CX0 (k + 1) f (spD K Pc) := by
  obtain ⟨oc, od, kV, doc, pm, an, cdv, ct, osl, rfl, lk, hcd⟩ := F.ex
  have hlN : ps.length < N.length := by have := congrArg List.length Sc.pre; rw [List.length_take, List.length_append] at this; simp at this; omega
  refine (StX.fn_star (CX := CX0) (sp := fun vs H2 Q E => ∃ (H G : Hp) (Z : Zone) (as : List AD) (rs : List D) (ws rest : List V) (R : D → Prop) (p : Addr), vs = ws ++ [V.ref p] ∧ H2 = upd H p (.tup rest) ∧ H p = none ∧ Z.given = none ∧ Ex G H ∧ DeckIn Z G H ∧ ArgsRp K Z G as ws ∧ RpA K G rs rest ∧ as.length = ps.length ∧ rs.length ≤ Lm ∧ Pc (as ++ rs.map AD.dat) R ∧
      ∀ v G' H' d, State K Z G H G' H' [] [] → Rp K G' d v → R d → Q v H') lk hcd Sc StX.cxUp_none (hb kV doc pm an cdv ct) (fun A outer s H2 vs Q E hr h => ?_)).imp (fun vs H Q E h => ?_)
  · obtain ⟨H, G, Z, as, rs, ws, rest, R, p, rfl, rfl, hp, hz, ex, hd, ra, rr, hla, hlr, hc, q⟩ := h
    have hwl := ra.length
    have s0 := State.start (N := N) hz ex hd ra (by omega)
    have s1 := (s0.laid (o := .tup rest) hp).1
    have s2 := s1.set (i := as.length) (v := .ref p) (sd := .dat (.tuple rs)) rfl ⟨.ref p, rfl, .tup (SqT.of upd_same) hlr (rr.mono (Ex.new (by cases e : G p with | none => rfl | some o => rw [ex _ _ e] at hp; cases hp)))⟩
    rw [← hwl, start_set (by omega)] at s2
    refine ⟨_, (pss_w (X := (cxOf CX0 P w K mg base N qual (defScope st) f cdv A outer s (upd H p (.tup rest)) E).nox)).nox, ?_⟩
    rw [hwl] at s2
    refine body ⟨Z, G, H⟩ as rs R hc hla hz _ (fits_def Sc hr) _ _ _ _ s2 ⟨fun σ' G' H' ds' e s' n => q .non G' H' .none s'.drop .non n, fun _ _ _ _ _ _ z => z.elim, fun _ _ _ _ _ _ z => z.elim,
      fun v G' H' d s' r' n => q v G' H' d s' r' n, fun p xs G' H' l s' a1 a2 a3 a4 a5 a6 n => ?_, fun _ _ _ _ _ _ _ _ _ _ _ _ _ _ _ _ _ _ _ _ z => z.elim⟩
    have s2 : State K Z G H (upd G' p (.lst xs)) H' [] [] := State.know s' a5 a2 a3 (.inl a1) (fun i l h => by simp at h)
    exact q (.ref p) _ H' (.list l) s2 (.lst upd_same a4 (a6.mono (Ex.new a2))) n
  · obtain ⟨Z, G, ads, R, hz, ex, hd, r, hc, q⟩ := h
    obtain ⟨as, rs, rfl, hla, hlr⟩ := hsp ads R hc
    obtain ⟨ws, rest, rfl, ra, rr⟩ := args_split r
    refine ⟨ws, rest, rfl, by rw [ra.length, hla], by rw [rr.length]; exact Lm_le hlr, fun p hp => ⟨H, G, Z, as, rs, ws, rest, R, p, rfl, rfl, hp, hz, ex, hd, ra, rr, hla, hlr, hc, q⟩⟩
end
end Dl


set_option Elab.async false
set_option maxRecDepth 100000
set_option linter.all false
set_option maxHeartbeats 2000000
namespace Dl
open PySem PySem.Spec PyProof.Rows L2 PySem.W
section
variable {prog : Program} {w : World} {A : Around} {E : Value → Shared → Prop} {s : Shared}
/-- the items of a tuple for *a, b, ..: a list, then the last ones -/
theorem unpack_star0 {l : Addr} {items : Array Value} {n : Nat} {Q : List Value → Shared → Prop} (hl : IsTup s.heap l items) (hh : A.handled = none) (h0 : 0 < n) (hn : n ≤ items.size + 1) (hz : items.size ≤ 16384)
    (h : ∀ (h' : Heap) (tk : Nat), (∀ b o, s.heap.get? b = some o → h'.get? b = some o) →
      Q (.ref h'.objs.size :: items.toList.drop (items.size + 1 - n)) { s with heap := h'.push { cls := .type "list", data := .seq (items.toList.take (items.size + 1 - n)).toArray }, toks := tk }) :
    wpAny (model prog w) A (unpackItems (.ref l) n (some 0)) Q E s := by
  have hlt : l ≠ s.heap.objs.size := by obtain ⟨o, ho, _⟩ := hl; exact Nat.ne_of_lt (Heap.lt_size ho)
  unfold unpackItems
  refine wpAny_bind ?_
  unfold notIterableAtAll
  refine wpAny_bind (wpAny_specialOf hl.typeIs PySem.F.slot_tuple_iter.lookup ?_)
  refine wpAny_pure ?_
  simp only [Bool.false_eq_true, if_false]
  refine wpAny_bind (wpAny_holding (iter_tuple hl ?_))
  refine wpAny_bind (wpAny_holding (wpAny_pure ?_))
  rw [if_neg (show ¬ (([] : List Value).length < 0) by simp)]
  refine wpAny_bind (wpAny_holding (kun_collect (T := "tuple_iterator") (.inr (.inr (.inr rfl))) (Walks.tuple (A := A.in1) hh s.heap.objs.size l hlt items) (fun j u st => st.1.typeIs) (k := 0) (by omega)
    ⟨⟨_, Heap.get?_push_size _ rfl, rfl, rfl⟩, IsTup.push hl _⟩ (by show _ < (s.heap.push _).objs.size; rw [Heap.size_push]; exact Nat.lt_succ_self _) (by obtain ⟨o, ho, _⟩ := hl; have := Heap.lt_size ho; show _ < (s.heap.push _).objs.size; rw [Heap.size_push]; exact Nat.lt_succ_of_lt this) (fun h2 tk hk => ?_) (by rw [sizeLine_eq]; omega)))
  rw [List.drop_zero]
  have hl2 : items.toList.length = items.size := Array.length_toList
  have hm : items.toList.length - (n - 1 - 0) = items.size + 1 - n := by omega
  show wpAny _ _ (if items.toList.length < n - 1 - 0 then _ else _) _ _ _
  rw [if_neg (by omega)]
  show wpAny _ _ (newList (items.toList.take (items.toList.length - (n - 1 - 0))) >>= fun d => pure ([] ++ [d] ++ items.toList.drop (items.toList.length - (n - 1 - 0)))) _ _ _
  rw [hm]
  refine wpAny_bind (wpAny_newList (wpAny_pure ?_) (by rw [List.length_take, sizeLine_eq]; omega))
  exact h h2 tk (fun b o e => hk b o (Nat.ne_of_lt (Heap.lt_size e)) (Heap.get?_push_of_some _ e))
end
/-- *a, b, .. = a tuple -/
def gStar (K : Frag) (n : Nat) (t : TGs) : TG := fun v σ H Q => ∃ a xs, v = .ref a ∧ SqT K H a xs ∧ 0 < n ∧ n ≤ xs.length + 1 ∧ xs.length ≤ 16384 ∧ ∀ q, H q = none → t (.ref q :: xs.drop (xs.length + 1 - n)) σ (upd H q (.lst (xs.take (xs.length + 1 - n)))) Q
section
variable {X : Cx} {pos : Pos}
theorem pgs_star {e : Expr} {p : Pos} {es : List Expr} {t : TG} {u : TGs} (h1 : PG X e t) (h2 : PGs X es u)
    (hs : (assignEach (.Starred e p :: es) X.env).map (·.2) = assign e X.env :: (assignEach es X.env).map (·.2) := by rfl) : PGs X (.Starred e p :: es) (gCons t u) := by
  refine ⟨fun pins s σ H vs us Q I r h => ?_⟩
  obtain ⟨v, vr, e1, h⟩ := h
  subst e1
  cases r with
  | cons r rr =>
    rw [hs]
    refine assignInOrder_cons (thn (h1.run pins s σ H _ _ _ I r h) fun _ s1 ⟨σ1, H1, I1, q1⟩ => ?_)
    exact h2.run pins s1 σ1 H1 _ _ Q I1 rr q1
theorem vals_take {n : Nat} : ∀ {xs : List V} {us : List Value}, Vals xs us → Vals (xs.take n) (us.take n) := by
  induction n with
  | zero => intro xs us _; (simp; exact .nil)
  | succ n ih =>
    intro xs us r
    cases r with
    | nil => (simp; exact .nil)
    | cons a r => exact .cons a (ih r)
theorem vals_drop {n : Nat} : ∀ {xs : List V} {us : List Value}, Vals xs us → Vals (xs.drop n) (us.drop n) := by
  induction n with
  | zero => intro xs us r; (simp; exact r)
  | succ n ih =>
    intro xs us r
    cases r with
    | nil => (simp; exact .nil)
    | cons a r => exact ih r
theorem pg_star {es : List Expr} {k : Nat} {t : TGs} {n : Nat} (hc : X.calm = true) (h : PGs X es t)
    (hn : (assignEach es X.env).length = n := by rfl) (hst : (assignEach es X.env).findIdx? (·.1) = some 0 := by rfl) : PG X (.Tuple es k pos) (gStar X.K n t) := by
  refine ⟨fun pins s σ H v u Q I r hw => ?_⟩
  obtain ⟨a, xs, e1, hq, h0, hl, hz, hw⟩ := hw
  subst e1
  cases r
  obtain ⟨its, rv, ht, _⟩ := I.tuple hq
  have hlen := rv.length
  rw [assign_Tuple]
  refine wpAny_bind (wpAny_standAt ?_)
  unfold unpack
  rw [hn, hst]
  refine wpAny_bind (wpAny_holding (unpack_star0 ht (I.ok.hd hc) h0 (by simp; omega) (by simp; omega) (fun h' tk hk => ?_)))
  have I1 : Inv X pins σ H { s with heap := h', toks := tk } := I.kept (t' := tk) hk
  have hf : H h'.objs.size = none := I1.hok.fresh (Nat.le_refl _)
  have e2 : its.toArray.toList = its := by simp
  have e3 : its.toArray.size = xs.length := by simp [hlen]
  rw [e2, e3]
  have new : ObjOk X.prog X.w (upd H h'.objs.size (.lst (xs.take (xs.length + 1 - n)))) (h'.push { cls := .type "list", data := .seq (its.take (xs.length + 1 - n)).toArray }) h'.objs.size (.lst (xs.take (xs.length + 1 - n))) :=
    ⟨by rw [List.length_take, sizeLine_eq]; omega, _, 0, vals_take rv, Heap.get?_push_size _ rfl⟩
  have I2 := I1.laid (t' := tk) (fun b u e => Heap.get?_push_of_some _ e) (Nat.le_refl _) new
  exact h.run pins _ σ _ _ _ Q I2 (show Vals (V.ref h'.objs.size :: xs.drop (xs.length + 1 - n)) (Value.ref h'.objs.size :: its.drop (xs.length + 1 - n)) from .cons rfl (vals_drop rv)) (hw _ hf)
end

section
variable {I : Inf} {c : Ct} {ds : List SD} {A : After} {e : Expr} {P : D → Prop} {pos : Pos} {d : D}
theorem rpA_take {K : Frag} {G : Hp} {n : Nat} : ∀ {l : List D} {vs : List V}, RpA K G l vs → RpA K G (l.take n) (vs.take n) := by
  induction n with
  | zero => intro l vs _; simp; exact RpA.nil
  | succ n ih =>
    intro l vs r
    cases l with
    | nil => have := r.length; cases vs with | nil => simpa using r | cons _ _ => simp at this
    | cons a l => obtain ⟨v, ws, rfl, r1, r2⟩ := r.inv; exact RpA.cons r1 (ih r2)
theorem rpA_drop {K : Frag} {G : Hp} {n : Nat} : ∀ {l : List D} {vs : List V}, RpA K G l vs → RpA K G (l.drop n) (vs.drop n) := by
  induction n with
  | zero => intro l vs r; simpa using r
  | succ n ih =>
    intro l vs r
    cases l with
    | nil => have := r.length; cases vs with | nil => simpa using r | cons _ _ => simp at this
    | cons a l => obtain ⟨v, ws, rfl, r1, r2⟩ := r.inv; exact ih r2
/-- *a, b, c = a tuple -/
theorem rs_star2 {i j m : Nat} {x y z : Str} {p1 p2 p3 ps pt : Pos} {kk : Nat} (hx : Sto I i x) (hy : Sto I j y) (hz : Sto I m z) (h : EvE I c e ds P)
    (hn : ∀ d, P d → ∃ l d1 d2, d = .tuple (l ++ [d1, d2]) ∧ l.length ≤ 1000 ∧ A.nx (((ds.set i (.dat (.list l))).set j (.dat d1)).set m (.dat d2)))
    (hs : ∀ X, Fits I X → swapsWithSole [.Tuple [.Starred (.Name x p1) ps, .Name y p2, .Name z p3] kk pt] e pos.line X.env = pure false := by intros; rfl)
    (hw : ∀ X, Fits I X → swappedStores [.Tuple [.Starred (.Name x p1) ps, .Name y p2, .Name z p3] kk pt] e X.env = pure none := by intros; rfl)
    (h1 : ∀ X, Fits I X → (assignEach [.Tuple [.Starred (.Name x p1) ps, .Name y p2, .Name z p3] kk pt] X.env).map (·.2) = [assign (.Tuple [.Starred (.Name x p1) ps, .Name y p2, .Name z p3] kk pt) X.env] := by intros; rfl) :
    RunS I c (.Assign [.Tuple [.Starred (.Name x p1) ps, .Name y p2, .Name z p3] kk pt] e pos) ds A := fun X F σ G H E s k => by
  have pg := pg_star (k := kk) (pos := pt) (n := 3) F.calm (pgs_star (p := ps) (pg_name (pos := p1) (i := i) (by rw [F.N]; exact F.nd) (by rw [F.N]; exact hx.at_) (by rw [F.sc]; exact hx.loc) (hx.fn F)) (pgs_cons (pg_name (pos := p2) (i := j) (by rw [F.N]; exact F.nd) (by rw [F.N]; exact hy.at_) (by rw [F.sc]; exact hy.loc) (hy.fn F)) (pgs_cons (pg_name (pos := p3) (i := m) (by rw [F.N]; exact F.nd) (by rw [F.N]; exact hz.at_) (by rw [F.sc]; exact hz.loc) (hz.fn F)) pgs_nil)))
  refine w_ps (ps_asg pe_w pg (hs X F) (hw X F) (h1 X F)) (h X F σ G H s _ fun v G1 H1 d x1 s1 r1 q1 => ?_)
  obtain ⟨l, d1, d2, rfl, hl, hnx⟩ := hn d q1
  obtain ⟨a, xs, rfl, hq, _, ra⟩ := r1.tup'
  have hlen := ra.length
  rw [List.length_append] at hlen
  have hlen : xs.length = l.length + 2 := hlen
  have e1 : xs.length + 1 - 3 = l.length := by omega
  have rt := rpA_take (n := l.length) ra
  have rd := rpA_drop (n := l.length) ra
  rw [List.take_left'  rfl] at rt
  rw [List.drop_left' rfl] at rd
  obtain ⟨v1, v2, e2, r1, r2⟩ := rpa2 rd
  refine ⟨a, xs, rfl, by rw [F.K]; exact ex_t s1.ex hq, by decide, by omega, by omega, fun p np => ?_⟩
  rw [e1, e2]
  obtain ⟨s2, x2⟩ := s1.laid (o := .lst (xs.take l.length)) np
  have s3 := s2.set (i := i) (v := .ref p) (sd := .dat (.list l)) rfl ⟨_, rfl, .lst upd_same (Nat.le_trans hl (by decide)) (rt.mono x2.g)⟩
  have s4 := s3.set (i := j) (v := v1) (sd := .dat d1) rfl ⟨_, rfl, r1.mono x2.g⟩
  have s5 := s4.set (i := m) (v := v2) (sd := .dat d2) rfl ⟨_, rfl, r2.mono x2.g⟩
  exact ⟨_, _, rfl, _, _, rfl, _, _, rfl, rfl, k.nx _ _ _ _ (x1.g.trans x2.g) s5 hnx⟩
theorem rs_star1 {i j : Nat} {x y : Str} {p1 p2 ps pt : Pos} {kk : Nat} (hx : Sto I i x) (hy : Sto I j y) (h : EvE I c e ds P)
    (hn : ∀ d, P d → ∃ l d1, d = .tuple (l ++ [d1]) ∧ l.length ≤ 1000 ∧ A.nx ((ds.set i (.dat (.list l))).set j (.dat d1)))
    (hs : ∀ X, Fits I X → swapsWithSole [.Tuple [.Starred (.Name x p1) ps, .Name y p2] kk pt] e pos.line X.env = pure false := by intros; rfl)
    (hw : ∀ X, Fits I X → swappedStores [.Tuple [.Starred (.Name x p1) ps, .Name y p2] kk pt] e X.env = pure none := by intros; rfl)
    (h1 : ∀ X, Fits I X → (assignEach [.Tuple [.Starred (.Name x p1) ps, .Name y p2] kk pt] X.env).map (·.2) = [assign (.Tuple [.Starred (.Name x p1) ps, .Name y p2] kk pt) X.env] := by intros; rfl) :
    RunS I c (.Assign [.Tuple [.Starred (.Name x p1) ps, .Name y p2] kk pt] e pos) ds A := fun X F σ G H E s k => by
  have pg := pg_star (k := kk) (pos := pt) (n := 2) F.calm (pgs_star (p := ps) (pg_name (pos := p1) (i := i) (by rw [F.N]; exact F.nd) (by rw [F.N]; exact hx.at_) (by rw [F.sc]; exact hx.loc) (hx.fn F)) (pgs_cons (pg_name (pos := p2) (i := j) (by rw [F.N]; exact F.nd) (by rw [F.N]; exact hy.at_) (by rw [F.sc]; exact hy.loc) (hy.fn F)) pgs_nil))
  refine w_ps (ps_asg pe_w pg (hs X F) (hw X F) (h1 X F)) (h X F σ G H s _ fun v G1 H1 d x1 s1 r1 q1 => ?_)
  obtain ⟨l, d1, rfl, hl, hnx⟩ := hn d q1
  obtain ⟨a, xs, rfl, hq, _, ra⟩ := r1.tup'
  have hlen := ra.length
  rw [List.length_append] at hlen
  have hlen : xs.length = l.length + 1 := hlen
  have e1 : xs.length + 1 - 2 = l.length := by omega
  have rt := rpA_take (n := l.length) ra
  have rd := rpA_drop (n := l.length) ra
  rw [List.take_left' rfl] at rt
  rw [List.drop_left' rfl] at rd
  obtain ⟨v1, e2, r1⟩ := rpa1 rd
  refine ⟨a, xs, rfl, by rw [F.K]; exact ex_t s1.ex hq, by decide, by omega, by omega, fun p np => ?_⟩
  rw [e1, e2]
  obtain ⟨s2, x2⟩ := s1.laid (o := .lst (xs.take l.length)) np
  have s3 := s2.set (i := i) (v := .ref p) (sd := .dat (.list l)) rfl ⟨_, rfl, .lst upd_same (Nat.le_trans hl (by decide)) (rt.mono x2.g)⟩
  have s4 := s3.set (i := j) (v := v1) (sd := .dat d1) rfl ⟨_, rfl, r1.mono x2.g⟩
  exact ⟨_, _, rfl, _, _, rfl, rfl, k.nx _ _ _ _ (x1.g.trans x2.g) s4 hnx⟩
end
section
variable {I : Inf} {c : Ct} {ds : List SD} {a b : Expr} {P PA PB : D → Prop} {pos : Pos}
theorem ev_eqP (ha : EvE I c a ds PA) (hb : EvE I c b ds PB) (h : ∀ d e, PA d → PB e → SeqAt.shaped d = true ∧ SeqAt.shaped e = true ∧ P (.bool (PyData.eqv d e))) : EvE I c (.Compare a [.Eq] [b] pos) ds P :=
  ev_cmp (r := rEqD I.K) (fun X F => by have := op_eqD (X := X) F.room.units; rw [F.K] at this; exact this) (nobehind _ (by decide) (by decide)) ha hb fun d' e' hi hj => by
    obtain ⟨sd, se, hp⟩ := h d' e' hi hj
    exact rv_eq sd se hp
end
end Dl


set_option Elab.async false
set_option maxRecDepth 100000
set_option linter.all false
set_option maxHeartbeats 2000000
namespace Dl
open PySem PySem.Spec PyProof.Rows L2
section
variable {K : Frag} {Z : Zone} {G0 H0 G H : Hp} {σ : L2.St} {ds : List SD}
theorem State.deckAt (s : State K Z G0 H0 G H σ ds) {dk cc : Addr} (hz : Z.deck = some (dk, cc)) : G dk = none ∧ G cc = none ∧ dk ≠ cc ∧ ∃ (cells : List Int) (mixed draws : Int), cells.length ≤ 64 ∧ 0 ≤ mixed ∧ mixed < 2147483629 ∧ 0 ≤ draws ∧
      H dk = some (deckO cc mixed draws) ∧ H cc = some (.lst (cells.map V.int)) := by
  have h := s.deck
  unfold DeckIn at h
  rw [hz] at h
  exact h
theorem State.deckPut (s : State K Z G0 H0 G H σ ds) {p : Addr} {o : HO} (hin : inDeck Z p) (hd : DeckIn Z G (upd H p o)) : State K Z G0 H0 G (upd H p o) σ ds ∧ Gr Z G H G (upd H p o) := by
  have hn := s.deck.ne hin
  refine ⟨⟨s.ex.mut hn.2, s.exg, s.nw, fun a u h1 h2 => ?_, hd, s.len, fun q hq z => ?_, fun i sd h => ?_, s.dist⟩, Ex.refl G, fun a u h1 h2 => ?_, fun q h => .inl h, fun q h z => ?_⟩
  · rw [upd_ne (fun e => h2 (.inl (by rw [e]; exact hin)))]; exact s.exm a u h1 h2
  · by_cases e : q = p
    · rw [e, upd_same] at z; cases z
    · rw [upd_ne e] at z; exact s.giv q hq z
  · have q := s.slots i sd h
    cases sd with
    | un => trivial
    | dat d => exact q
    | own l =>
      obtain ⟨r, xs, e1, h1, h2, h3, h4, h5, h6⟩ := q
      exact ⟨r, xs, e1, h1, h2, h3, h4, by rw [upd_ne (fun e => h3 (by rw [e]; exact hin))]; exact h5, h6⟩
    | deck => exact q
    | raw v => exact q
  · rw [upd_ne (fun e => h2 (by rw [e]; exact hin))]; exact h1
  · by_cases e : q = p
    · rw [e, upd_same] at z; cases z
    · rw [upd_ne e] at z; exact h z
theorem State.deckCells (s : State K Z G0 H0 G H σ ds) {dk cc : Addr} (hz : Z.deck = some (dk, cc)) {cells : List Int} (hl : cells.length ≤ 64) :
    State K Z G0 H0 G (upd H cc (.lst (cells.map V.int))) σ ds ∧ Gr Z G H G (upd H cc (.lst (cells.map V.int))) := by
  obtain ⟨d1, d2, d3, cells', mixed, draws, b1, b2, b3, b4, k1, k2⟩ := s.deckAt hz
  refine s.deckPut (by unfold inDeck; rw [hz]; exact .inr rfl) ?_
  unfold DeckIn; rw [hz]
  exact ⟨d1, d2, d3, cells, mixed, draws, hl, b2, b3, b4, by rw [upd_ne d3]; exact k1, upd_same⟩
theorem State.deckDraws (s : State K Z G0 H0 G H σ ds) {dk cc : Addr} (hz : Z.deck = some (dk, cc)) {mixed draws draws' : Int} (hd : H dk = some (deckO cc mixed draws)) (h0 : 0 ≤ draws') :
    State K Z G0 H0 G (upd H dk (deckO cc mixed draws')) σ ds ∧ Gr Z G H G (upd H dk (deckO cc mixed draws')) := by
  obtain ⟨d1, d2, d3, cells', mixed', draws2, b1, b2, b3, b4, k1, k2⟩ := s.deckAt hz
  have e : mixed' = mixed := by
    rw [hd] at k1; unfold deckO at k1; simp at k1; exact k1.1.symm
  subst e
  refine s.deckPut (by unfold inDeck; rw [hz]; exact .inl rfl) ?_
  unfold DeckIn; rw [hz]
  exact ⟨d1, d2, d3, cells', mixed', draws', b1, b2, b3, h0, upd_same, by rw [upd_ne (Ne.symm d3)]; exact k2⟩
end

section
variable {I : Inf} {c : Ct} {ds : List SD} {A : After} {a b e : Expr} {P PA PB : D → Prop} {pos : Pos} {d : D}
theorem S.deckSlot {σ : L2.St} {G H : Hp} (s : S I c G H σ ds) {i : Nat} (hd : ds[i]? = some .deck) : ∃ dk cc, c.Z.deck = some (dk, cc) ∧ σ[i]? = some (some (.ref dk)) := by
  obtain ⟨dk, cc, hz, e1⟩ := s.slots i _ hd
  refine ⟨dk, cc, hz, ?_⟩
  cases z : σ[i]? with
  | none => rw [z] at e1; cases e1
  | some o => rw [z] at e1; simpa using e1
theorem val_cells {cc : Addr} {m d : Int} : valV [(Sum.inr ("left" : Str), V.ref cc), (Sum.inr ("mixed" : Str), V.int m), (Sum.inr ("draws" : Str), V.int d)] (Sum.inr ("left" : Str) : L2.Key) = some (.ref cc) := rfl
theorem val_mixed {cc : Addr} {m d : Int} : valV [(Sum.inr ("left" : Str), V.ref cc), (Sum.inr ("mixed" : Str), V.int m), (Sum.inr ("draws" : Str), V.int d)] (Sum.inr ("mixed" : Str) : L2.Key) = some (.int m) := rfl
theorem val_draws {cc : Addr} {m d : Int} : valV [(Sum.inr ("left" : Str), V.ref cc), (Sum.inr ("mixed" : Str), V.int m), (Sum.inr ("draws" : Str), V.int d)] (Sum.inr ("draws" : Str) : L2.Key) = some (.int d) := rfl
theorem put_draws {cc : Addr} {m d : Int} {v : V} : putK [(Sum.inr ("left" : Str), V.ref cc), (Sum.inr ("mixed" : Str), V.int m), (Sum.inr ("draws" : Str), V.int d)] (Sum.inr ("draws" : Str) : L2.Key) v = [(Sum.inr ("left" : Str), V.ref cc), (Sum.inr ("mixed" : Str), V.int m), (Sum.inr ("draws" : Str), v)] := rfl
/-- what the deck holds under "mixed" and "draws" -/
theorem ev_deckD (i : Nat) {x : Str} {p p1 : Pos} {j} (hN : I.N[i]? = some x) (hv : Vis I.sc x) (hd : ds[i]? = some .deck)
    (h1 : (x == ("__debug__" : Str)) = false := by decide) (h2 : (x == ("__classdict__" : Str)) = false := by decide) :
    EvE I c (.Subscript (.Name x p) (.Constant (.str ("draws" : Str)) j p1) pos) ds (IsI (0 ≤ ·)) := fun X F σ G H s Q k => by
  refine w_pe (pe_dget (Nat.lt_of_le_of_lt (Nat.add_le_add_left (by decide : 1 ≤ 64) _) F.room.units) (pe_var (i := i) (by rw [F.N]; exact hN) (by rw [F.sc]; exact hv) h1 h2) pe_str (fun _ _ => rfl)) ?_
  obtain ⟨dk, cc, hz, e1⟩ := s.deckSlot hd
  obtain ⟨d1, d2, d3, cells, mixed, draws, b1, b2, b3, b4, k1, k2⟩ := State.deckAt s hz
  have g : DGet H dk (.str ("draws" : Str)) (some (.int draws)) := by
    have := DGet.k (k := (Sum.inr ("draws" : Str) : L2.Key)) k1
    rw [val_draws] at this; exact this
  exact ⟨_, e1, dk, .int draws, rfl, g, k.now s .int ⟨_, rfl, b4⟩⟩
theorem ev_deckM (i : Nat) {x : Str} {p p1 : Pos} {j} (hN : I.N[i]? = some x) (hv : Vis I.sc x) (hd : ds[i]? = some .deck)
    (h1 : (x == ("__debug__" : Str)) = false := by decide) (h2 : (x == ("__classdict__" : Str)) = false := by decide) :
    EvE I c (.Subscript (.Name x p) (.Constant (.str ("mixed" : Str)) j p1) pos) ds (IsI (0 ≤ ·)) := fun X F σ G H s Q k => by
  refine w_pe (pe_dget (Nat.lt_of_le_of_lt (Nat.add_le_add_left (by decide : 1 ≤ 64) _) F.room.units) (pe_var (i := i) (by rw [F.N]; exact hN) (by rw [F.sc]; exact hv) h1 h2) pe_str (fun _ _ => rfl)) ?_
  obtain ⟨dk, cc, hz, e1⟩ := s.deckSlot hd
  obtain ⟨d1, d2, d3, cells, mixed, draws, b1, b2, b3, b4, k1, k2⟩ := State.deckAt s hz
  have g : DGet H dk (.str ("mixed" : Str)) (some (.int mixed)) := by
    have := DGet.k (k := (Sum.inr ("mixed" : Str) : L2.Key)) k1
    rw [val_mixed] at this; exact this
  exact ⟨_, e1, dk, .int mixed, rfl, g, k.now s .int ⟨_, rfl, b2⟩⟩
/-- one factor is small -/
theorem ev_mulS {p q r : Int → Prop} (ha : EvE I c a ds (IsI p)) (hb : EvE I c b ds (IsI q)) (hc : ∀ i j, p i → q j → CMul i j) (h : ∀ i j, p i → q j → r (i * j)) : EvE I c (.BinOp a .Mult b pos) ds (IsI r) :=
  ev_op (fun _ _ => op_mul) ha hb fun d e ⟨i, hi, pi⟩ ⟨j, hj, qj⟩ => by rw [hi, hj]; exact rv_I (hc i j pi qj) ⟨_, rfl, h i j pi qj⟩
theorem ev_modP {p q r : Int → Prop} (ha : EvE I c a ds (IsI p)) (hb : EvE I c b ds (IsI q)) (hc : ∀ i j, p i → q j → 0 < j) (h : ∀ i j, p i → q j → r (i % j)) : EvE I c (.BinOp a .Mod b pos) ds (IsI r) :=
  ev_op (fun _ _ => op_mod) ha hb fun d e ⟨i, hi, pi⟩ ⟨j, hj, qj⟩ => by rw [hi, hj]; exact rv_I (hc i j pi qj) ⟨_, rfl, h i j pi qj⟩
theorem ev_divP {p q r : Int → Prop} (ha : EvE I c a ds (IsI p)) (hb : EvE I c b ds (IsI q)) (hc : ∀ i j, p i → q j → CDivW i j) (h : ∀ i j, p i → q j → r (i / j)) : EvE I c (.BinOp a .FloorDiv b pos) ds (IsI r) :=
  ev_op (fun _ _ => op_fdivW) ha hb fun d e ⟨i, hi, pi⟩ ⟨j, hj, qj⟩ => by rw [hi, hj]; exact rv_I (hc i j pi qj) ⟨_, rfl, h i j pi qj⟩
/-- d['draws'] = n -/
theorem rs_deckSet {i : Nat} {x : Str} {p p1 p2 : Pos} {j} (hN : I.N[i]? = some x) (hv : Vis I.sc x) (hd : ds[i]? = some .deck) (h : EvE I c e ds (IsI (0 ≤ ·))) (hn : A.nx ds)
    (h1 : (x == ("__debug__" : Str)) = false := by decide) (h2 : (x == ("__classdict__" : Str)) = false := by decide)
    (hs : ∀ X, Fits I X → swapsWithSole [.Subscript (.Name x p) (.Constant (.str ("draws" : Str)) j p1) p2] e pos.line X.env = pure false := by intros; rfl)
    (hw : ∀ X, Fits I X → swappedStores [.Subscript (.Name x p) (.Constant (.str ("draws" : Str)) j p1) p2] e X.env = pure none := by intros; rfl)
    (ht : ∀ X, Fits I X → (assignEach [.Subscript (.Name x p) (.Constant (.str ("draws" : Str)) j p1) p2] X.env).map (·.2) = [assign (.Subscript (.Name x p) (.Constant (.str ("draws" : Str)) j p1) p2) X.env] := by intros; rfl) :
    RunS I c (.Assign [.Subscript (.Name x p) (.Constant (.str ("draws" : Str)) j p1) p2] e pos) ds A := fun X F σ G H E s k => by
  refine w_ps (ps_asg pe_w (pg_sub (pe_var (i := i) (by rw [F.N]; exact hN) (by rw [F.sc]; exact hv) h1 h2) pe_str (set_dict (Nat.lt_of_le_of_lt (Nat.add_le_add_left (by decide : 1 ≤ 64) _) F.room.units))) (hs X F) (hw X F) (ht X F)) ?_
  refine h X F σ G H s _ fun v G1 H1 d x1 s1 r1 p1 => ?_
  obtain ⟨n, rfl, hn0⟩ := p1
  rw [r1.int']
  obtain ⟨dk, cc, hz, e1⟩ := s1.deckSlot hd
  obtain ⟨d1, d2, d3, cells, mixed, draws, b1, b2, b3, b4, k1, k2⟩ := State.deckAt s1 hz
  obtain ⟨s2, g2⟩ := State.deckDraws s1 hz k1 hn0
  have g : DPut H1 dk (.str ("draws" : Str)) (.int n) (upd H1 dk (deckO cc mixed n)) := by
    have := DPut.k (k := (Sum.inr ("draws" : Str) : L2.Key)) (v := .int n) k1 (by show 3 < sizeLine; decide)
    rw [put_draws] at this; exact this
  exact ⟨_, e1, dk, _, rfl, g, k.nx σ G1 _ ds x1.g s2 hn⟩
end
end Dl


set_option Elab.async false
set_option maxRecDepth 100000
set_option linter.all false
set_option maxHeartbeats 2000000
namespace Dl
open PySem PySem.Spec PyProof.Rows L2
theorem shaped_ints (ns : List Int) : SeqAt.shaped (.list (ns.map PyData.int)) = true := by
  have h1 : ∀ ns : List Int, PyData.canLayAll0 (ns.map PyData.int) = true := by
    intro ns
    induction ns with
    | nil => simp [PyData.canLayAll0]
    | cons n ns ih => simp [PyData.canLayAll0, PyData.canLay0, ih]
  have h2 := depth_ints ns
  unfold SeqAt.shaped
  simp only [PyData.canLay0, h1, Bool.true_and, decide_eq_true_eq]
  simp only [PyData.depth]; omega
theorem eqv_nil (ns : List Int) : PyData.eqv (.list (ns.map PyData.int)) (.list []) = decide (ns = []) := by
  cases ns with
  | nil => simp [PyData.eqv, PyData.eqvAll]
  | cons n ns => simp [PyData.eqv, PyData.eqvAll]
section
variable {I : Inf} {c : Ct} {ds : List SD} {A : After} {d : D}
theorem pe_deck {X : Cx} {i : Nat} {x key : Str} {p p1 p2 : Pos} {j} (F : Fits I X) (hN : I.N[i]? = some x) (hv : Vis I.sc x) (h1 : (x == ("__debug__" : Str)) = false) (h2 : (x == ("__classdict__" : Str)) = false) :
    PE X (.Subscript (.Name x p) (.Constant (.str key) j p1) p2) (tDGet (tVar i) (tC (.str key))) :=
  pe_dget (Nat.lt_of_le_of_lt (Nat.add_le_add_left (by decide : 1 ≤ 64) _) F.room.units) (pe_var (i := i) (by rw [F.N]; exact hN) (by rw [F.sc]; exact hv) h1 h2) pe_str (fun _ _ => rfl)
theorem at_cells {H : Hp} {dk cc : Addr} {mixed draws : Int} (k1 : H dk = some (deckO cc mixed draws)) : DGet H dk (.str ("left" : Str)) (some (.ref cc)) := by
  have := DGet.k (k := (Sum.inr ("left" : Str) : L2.Key)) k1
  rw [val_cells] at this; exact this
/-- the part of the draw that looks at the cells -/
theorem rs_ifDraw {i iy iz n : Nat} {x y z : Str} {q1 q2 q3 q4 q5 q6 q7 q8 q9 r1 r2 r3 r4 r5 r6 r7 r8 r9 u1 u2 u3 u4 u5 u6 u7 u8 u9 w1 w3 w4 w5 : Pos} {j1 j2 j3 j4 j5 j6} {rest1 rest2 : List Stmt}
    (hN : I.N[i]? = some x) (hv : Vis I.sc x) (hd : ds[i]? = some .deck) (hy : Sto I iy y) (hvy : Vis I.sc y) (hNz : I.N[iz]? = some z) (hvz : Vis I.sc z) (hz : ds[iz]? = some (.dat (.int n))) (hn : n < 2 ^ 100) (hi1 : iy ≠ i) (hi2 : iy ≠ iz) (hly : iy < ds.length)
    (hg : I.sc.names.lookup ("max" : Str) = some .globalImplicit) (hm : I.mg "max" = none)
    (h1 : ∀ m : Int, Run I c rest1 (ds.set iy (.dat (.int m))) { A with nx := fun _ => False }) (h2 : ∀ m : Int, Run I c rest2 (ds.set iy (.dat (.int m))) A) (h3 : A.nx ds)
    (hx1 : (x == ("__debug__" : Str)) = false := by decide) (hx2 : (x == ("__classdict__" : Str)) = false := by decide)
    (hy1 : (y == ("__debug__" : Str)) = false := by decide) (hy2 : (y == ("__classdict__" : Str)) = false := by decide)
    (hz1 : (z == ("__debug__" : Str)) = false := by decide) (hz2 : (z == ("__classdict__" : Str)) = false := by decide)
    (e1 : ∀ X, Fits I X → swapsWith (.Call (.Attribute (.Subscript (.Name x q6) (.Constant (.str ("left" : Str)) j2 q7) q8) ("pop" : Str) q9) [] [] r1) (some (.Name y q5)) r2.line X.env = pure false := by intros; rfl)
    (e2 : ∀ X, Fits I X → attributeBase (.Subscript (.Name x q6) (.Constant (.str ("left" : Str)) j2 q7) q8) ("pop" : Str) X.env (eval (.Subscript (.Name x q6) (.Constant (.str ("left" : Str)) j2 q7) q8) X.env) = eval (.Subscript (.Name x q6) (.Constant (.str ("left" : Str)) j2 q7) q8) X.env := by intros; rfl)
    (e3 : (q9.endLine == r1.line) = true := by rfl) (e4 : (u4.endLine == w3.line) = true := by rfl)
    (e5 : ∀ X, Fits I X → swapsWith (.Call (.Attribute (.Subscript (.Name x u1) (.Constant (.str ("left" : Str)) j5 u2) u3) ("append" : Str) u4) [.BinOp (.Name y u5) .FloorDiv (.Call (.Name "max" u6) [.Constant (.int 2) j6 u7, .Name z u8] [] u9) w1] [] w3) none w4.line X.env = pure false := by intros; rfl)
    (e6 : ∀ X, Fits I X → attributeBase (.Subscript (.Name x u1) (.Constant (.str ("left" : Str)) j5 u2) u3) ("append" : Str) X.env (eval (.Subscript (.Name x u1) (.Constant (.str ("left" : Str)) j5 u2) u3) X.env) = eval (.Subscript (.Name x u1) (.Constant (.str ("left" : Str)) j5 u2) u3) X.env := by intros; rfl)
    (e7 : ∀ X, Fits I X → ((((backTo w3 (starEach [.BinOp (.Name y u5) .FloorDiv (.Call (.Name "max" u6) [.Constant (.int 2) j6 u7, .Name z u8] [] u9) w1] X.env)).all fun x => !x.fst) && (backToKw w3 (keywordEach [] X.env)).all fun x => x.fst.isSome) && decide (([Expr.BinOp (.Name y u5) .FloorDiv (.Call (.Name "max" u6) [.Constant (.int 2) j6 u7, .Name z u8] [] u9) w1].length + ([] : List Keyword).length + if ([] : List Keyword).isEmpty = true then 0 else 1) < 30)) = true := by intros; rfl) :
    RunS I c (.If (.Compare (.Subscript (.Name x q1) (.Constant (.str ("left" : Str)) j1 q2) q3) [.NotEq] [.List [] q4] r3)
      (.Assign [.Name y q5] (.Call (.Attribute (.Subscript (.Name x q6) (.Constant (.str ("left" : Str)) j2 q7) q8) ("pop" : Str) q9) [] [] r1) r2
        :: .If (.Compare (.Name y r4) [.GtE] [.BinOp (.Constant (.int 10) j3 r5) .Pow (.Constant (.int 18) j4 r6) r7] r8)
             (.Expr (.Call (.Attribute (.Subscript (.Name x u1) (.Constant (.str ("left" : Str)) j5 u2) u3) ("append" : Str) u4) [.BinOp (.Name y u5) .FloorDiv (.Call (.Name "max" u6) [.Constant (.int 2) j6 u7, .Name z u8] [] u9) w1] [] w3) w4 :: rest1) [] r9
        :: rest2) [] w5) ds A := fun X F σ G H E s k => by
  have hb : bootBuiltins ("max" : Str) = some (.builtin "max") := by decide +kernel
  have hND : X.N.Nodup := by rw [F.N]; exact F.nd
  have hNy : X.N[iy]? = some y := by rw [F.N]; exact hy.at_
  have hvy' : Vis X.env.scope y := by rw [F.sc]; exact hvy
  refine w_ps (ps_if (pt_cmpR (op_neD F.room.units) (pe_deck F hN hv hx1 hx2) (pe_lst pa_nil) (nobehind _ (by decide) (by decide)))
    (pss_cons (ps_set (i := iy) hND hNy (by rw [F.sc]; exact hy.loc) (pe_bm0 PySem.F.plainAttrs_list PySem.F.slot_list_pop PySem.F.type_list_pop mt_pop (pe_deck F hN hv hx1 hx2) (e2 X F) e3) (e1 X F) (hy.fn F))
      (pss_cons (ps_if (pt_cmpR op_ge (pe_var (i := iy) hNy hvy' hy1 hy2) (pe_op op_pow pe_int pe_int) (nobehind _ (by decide) (by decide)))
        (pss_cons (ps_expr (pe_bm PySem.F.plainAttrs_list PySem.F.slot_list_append PySem.F.type_list_append mt_append (pe_deck F hN hv hx1 hx2)
          (pa_cons (pe_op op_fdivW (pe_var (i := iy) hNy hvy' hy1 hy2) (pe_callB (call_max2 F.calm) (by show X.env.scope.names.lookup _ = _; rw [F.sc]; exact hg) (by rw [F.mg]; exact hm) hb (pa_cons pe_int (pa_cons (pe_var (i := iz) (by rw [F.N]; exact hNz) (by rw [F.sc]; exact hvz) hz1 hz2) pa_nil)))) pa_nil)
          (e6 X F) (e7 X F) e4) (e5 X F)) pss_w) pss_nil) pss_w)) pss_nil) ?_
  obtain ⟨dk, cc, hzk, hsl⟩ := s.deckSlot hd
  obtain ⟨d1, d2, d3, cells, mixed, draws, b1, b2, b3, b4, k1, k2⟩ := State.deckAt s hzk
  refine ⟨_, hsl, dk, .ref cc, rfl, at_cells k1, Nat.zero_le _, fun p np => ?_⟩
  have nc : cc ≠ p := fun e => by rw [e] at k2; rw [k2] at np; cases np
  have nd : dk ≠ p := fun e => by rw [e] at k1; rw [k1] at np; cases np
  have k1' : (upd H p (.lst [])) dk = some (deckO cc mixed draws) := by rw [upd_ne nd]; exact k1
  have k2' : (upd H p (.lst [])) cc = some (.lst (cells.map V.int)) := by rw [upd_ne nc]; exact k2
  have s2 : S I c G (upd H p (.lst [])) σ ds := State.aside s np
  generalize hH2 : upd H p (.lst []) = H2 at *
  refine ⟨.list (cells.map PyData.int), .list [], .lst (SqL.of k2') (dpAll_ints cells), .lst (SqL.of (by rw [← hH2]; exact upd_same)) .nil, shaped_ints _, by decide +kernel, _, rfl, ?_⟩
  rw [eqv_nil]
  by_cases hc : cells = []
  · have e0 : (!decide (cells = [])) = false := by simp [hc]
    rw [e0]
    exact iteF (k.nx σ G H2 ds (Ex.refl G) s2 h3)
  · have e0 : (!decide (cells = [])) = true := by simp [hc]
    rw [e0]
    refine iteT ?_
    have hne : cells.length ≠ 0 := fun e => hc (List.length_eq_zero_iff.mp e)
    refine ⟨_, hsl, dk, .ref cc, rfl, at_cells k1', .inl ⟨rfl, _, SqL.of k2'⟩, cc, cells.map V.int, .int (cells.getD (cells.length - 1) 0), rfl, rfl, k2', ?_, ?_⟩
    · rw [List.length_map, List.getElem?_map, List.getElem?_eq_getElem (by omega)]
      simp [List.getD, List.getElem?_eq_getElem (show cells.length - 1 < cells.length by omega)]
    generalize cells.getD (cells.length - 1) 0 = m
    rw [← List.map_dropLast]
    have hlen : cells.dropLast.length ≤ 63 := by rw [List.length_dropLast]; omega
    generalize cells.dropLast = cells2 at *
    obtain ⟨s3, g3⟩ := State.deckCells s2 hzk (cells := cells2) (by omega)
    have s4 := State.set s3 (i := iy) (v := .int m) (sd := .dat (.int m)) rfl ⟨_, rfl, by unfold Rp; rfl⟩
    generalize hH3 : upd H2 cc (.lst (cells2.map V.int)) = H3 at *
    have k3 : H3 cc = some (.lst (cells2.map V.int)) := by rw [← hH3]; exact upd_same
    have k4 : H3 dk = some (deckO cc mixed draws) := by rw [← hH3, upd_ne d3]; exact k1'
    have hsy : (σ.set iy (some (.int m)))[iy]? = some (some (.int m)) := by
      rw [List.getElem?_set_self]; rw [s.len]; exact hly
    have hsd : (σ.set iy (some (.int m)))[i]? = some (some (.ref dk)) := by rw [List.getElem?_set_ne hi1]; exact hsl
    have hsz : (σ.set iy (some (.int m)))[iz]? = some (some (.int n)) := by
      rw [List.getElem?_set_ne hi2]
      obtain ⟨v, ev, rv⟩ := s.slots iz _ hz
      rw [rv.int'] at ev
      cases zz : σ[iz]? with
      | none => rw [zz] at ev; cases ev
      | some o => rw [zz] at ev; simp at ev; rw [ev]
    refine ⟨_, hsy, 10, 18, rfl, rfl, ⟨by decide, by decide, by decide⟩, m, _, rfl, rfl, _, rfl, ?_⟩
    by_cases hm : (10 : Int) ^ (Int.toNat 18) ≤ m
    · have e0 : decide ((10 : Int) ^ (Int.toNat 18) ≤ m) = true := by simpa using hm
      rw [e0]
      refine iteT ?_
      refine ⟨_, hsd, dk, .ref cc, rfl, at_cells k4, .inl ⟨rfl, _, SqL.of k3⟩, _, hsy, _, hsz, 2, n, rfl, m, _, rfl, rfl, ?_, cc, _, _, rfl, rfl, k3, by rw [List.length_map]; exact Nat.lt_of_le_of_lt hlen (by decide), ?_⟩
      · refine wide_div (b := 101) ?_ ?_ (by decide) (by decide)
        · split <;> omega
        · split <;> omega
      · have s5 := (State.deckCells s4 hzk (cells := cells2 ++ [m / (if (n : Int) > 2 then (n : Int) else 2)]) (by rw [List.length_append]; simp; omega)).1
        rw [List.map_append] at s5
        exact h1 m X F _ G _ _ s5 ⟨fun _ _ _ _ _ _ z => z.elim, k.bk, k.ct, k.rt, k.ro, k.r3⟩
    · have e0 : decide ((10 : Int) ^ (Int.toNat 18) ≤ m) = false := by simpa using hm
      rw [e0]
      refine iteF ?_
      exact h2 m X F _ G _ E s4 k
end
end Dl


set_option Elab.async false
set_option maxRecDepth 100000
set_option linter.all false
set_option maxHeartbeats 2000000
namespace Dl
open PySem PySem.Spec PyProof.Rows L2
section
variable {I : Inf} {c : Ct} {ds : List SD} {a b e : Expr} {P PA PB : D → Prop} {pos : Pos} {d : D}
theorem et_cmpG {op : CmpOp} {r : R2} {PT : Bool → Prop} (ho : ∀ X, Fits I X → OpR X (compareOp op) r) (hm : behindInMarks op b = false) (ha : EvE I c a ds PA) (hb : EvE I c b ds PB)
    (h : ∀ d e, PA d → PB e → Rv I c ds r d e (fun t => ∃ b', t = .bool b' ∧ PT b')) : EvT I c (.Compare a [op] [b] pos) ds PT := fun X F σ G H s Q k => by
  refine w_pt (pt_cmpR (ho X F) pe_w pe_w hm) ?_
  refine ha X F σ G H s _ fun x G1 H1 d x1 s1 r1 p1 => ?_
  refine hb X F σ G1 H1 s1 _ fun y G2 H2 e x2 s2 r2 p2 => ?_
  refine h d e p1 p2 σ G2 H2 x y s2 (r1.mono x2.g) r2 _ fun v G3 H3 t x3 s3 r3 p3 => ?_
  obtain ⟨b', rfl, p3⟩ := p3
  rw [r3.bl']
  exact ⟨b', rfl, k b' G3 H3 ((x1.trans x2).trans x3) s3 p3⟩
theorem et_geP {p q : Int → Prop} {PT : Bool → Prop} (ha : EvE I c a ds (IsI p)) (hb : EvE I c b ds (IsI q)) (h : ∀ i j, p i → q j → PT (decide (j ≤ i))) : EvT I c (.Compare a [.GtE] [b] pos) ds PT :=
  et_cmpG (fun _ _ => op_ge) (nobehind _ (by decide) (by decide)) ha hb fun d e ⟨i, hi, pi⟩ ⟨j, hj, qj⟩ => by rw [hi, hj]; exact rv_B0 ⟨_, rfl, h i j pi qj⟩
theorem et_ltP {p q : Int → Prop} {PT : Bool → Prop} (ha : EvE I c a ds (IsI p)) (hb : EvE I c b ds (IsI q)) (h : ∀ i j, p i → q j → PT (decide (i < j))) : EvT I c (.Compare a [.Lt] [b] pos) ds PT :=
  et_cmpG (fun _ _ => op_lt) (nobehind _ (by decide) (by decide)) ha hb fun d e ⟨i, hi, pi⟩ ⟨j, hj, qj⟩ => by rw [hi, hj]; exact rv_B0 ⟨_, rfl, h i j pi qj⟩
theorem et_gtP {p q : Int → Prop} {PT : Bool → Prop} (ha : EvE I c a ds (IsI p)) (hb : EvE I c b ds (IsI q)) (h : ∀ i j, p i → q j → PT (decide (j < i))) : EvT I c (.Compare a [.Gt] [b] pos) ds PT :=
  et_cmpG (fun _ _ => op_gt) (nobehind _ (by decide) (by decide)) ha hb fun d e ⟨i, hi, pi⟩ ⟨j, hj, qj⟩ => by rw [hi, hj]; exact rv_B0 ⟨_, rfl, h i j pi qj⟩
theorem et_eqP {PT : Bool → Prop} (ha : EvE I c a ds PA) (hb : EvE I c b ds PB) (h : ∀ d e, PA d → PB e → SeqAt.shaped d = true ∧ SeqAt.shaped e = true ∧ PT (PyData.eqv d e)) : EvT I c (.Compare a [.Eq] [b] pos) ds PT :=
  et_cmpG (r := rEqD I.K) (fun X F => by have := op_eqD (X := X) F.room.units; rw [F.K] at this; exact this) (nobehind _ (by decide) (by decide)) ha hb fun d' e' hi hj => by
    obtain ⟨sd, se, hp⟩ := h d' e' hi hj
    exact rv_eq sd se ⟨_, rfl, hp⟩
theorem et_neP {PT : Bool → Prop} (ha : EvE I c a ds PA) (hb : EvE I c b ds PB) (h : ∀ d e, PA d → PB e → SeqAt.shaped d = true ∧ SeqAt.shaped e = true ∧ PT (!PyData.eqv d e)) : EvT I c (.Compare a [.NotEq] [b] pos) ds PT :=
  et_cmpG (r := rNeD I.K) (fun X F => by have := op_neD (X := X) F.room.units; rw [F.K] at this; exact this) (nobehind _ (by decide) (by decide)) ha hb fun d' e' hi hj => by
    obtain ⟨sd, se, hp⟩ := h d' e' hi hj
    exact rv_ne sd se ⟨_, rfl, hp⟩
theorem et_eqIP {p q : Int → Prop} {PT : Bool → Prop} (ha : EvE I c a ds (IsI p)) (hb : EvE I c b ds (IsI q)) (h : ∀ i j, p i → q j → PT (decide (i = j))) : EvT I c (.Compare a [.Eq] [b] pos) ds PT :=
  et_eqP ha hb fun d e ⟨i, hi, pi⟩ ⟨j, hj, qj⟩ => by
    subst hi; subst hj
    refine ⟨by unfold SeqAt.shaped; simp [PyData.canLay0, PyData.depth], by unfold SeqAt.shaped; simp [PyData.canLay0, PyData.depth], ?_⟩
    have e : PyData.eqv (.int i) (.int j) = decide (i = j) := by simp [PyData.eqv]; rfl
    rw [e]; exact h i j pi qj
theorem Made.every {R : D → D → Prop} {items l : List D} (h : Made (fun _ => true) R items l) : l.length = items.length ∧ ∀ (i : Nat) (y : D), l[i]? = some y → ∃ d : D, items[i]? = some d ∧ R d y := by
  induction h with
  | nil => exact ⟨rfl, fun i y h => by simp at h⟩
  | skip _ h2 => cases h2
  | @put items l d y _ _ hr ih =>
    obtain ⟨h1, h2⟩ := ih
    refine ⟨by simp [h1], fun i z hz => ?_⟩
    by_cases e : i < l.length
    · rw [List.getElem?_append_left e] at hz
      obtain ⟨d', hd', hr'⟩ := h2 i z hz
      exact ⟨d', by rw [List.getElem?_append_left (by omega)]; exact hd', hr'⟩
    · rw [List.getElem?_append_right (by omega)] at hz
      have e2 : i - l.length = 0 := by
        rcases Nat.eq_zero_or_pos (i - l.length) with h0 | h0
        · exact h0
        · rw [List.getElem?_eq_none (by simp; omega)] at hz; cases hz
      rw [e2] at hz
      simp at hz
      subst hz
      refine ⟨d, ?_, hr⟩
      rw [List.getElem?_append_right (by omega), ← h1, e2]; rfl
/-- [..], each item by what is told of it -/
theorem ef_mapP {elt tg iter : Expr} {scope : Scope} (own : List (Str × Nat)) {asg : D → List (Nat × D) → Prop} {PL : List D → Prop} (R : D → D → Prop)
    (hb : blkC I.N I.sc scope own = true) (hw : Walk I c tg iter ds PL) (ht : TgE (I.blk scope) tg asg) (hl : ∀ items, PL items → items.length ≤ Lm)
    (he : ∀ items, PL items → ∀ d ∈ items, ∃ as, asg d as ∧ (∀ q ∈ as, q.1 ∈ own.map (fun x : Str × Nat => x.2)) ∧ EvE (I.blk scope) c elt (setDs (wipeDs ds (own.map (fun x : Str × Nat => x.2))) as) (R d))
    (hs : ∀ X, Fits I X → ∀ x, foldedSetIterable iter X.env x = pure x := by intros; rfl) :
    EvF I c (.ListComp elt [⟨tg, iter, [], 0⟩] scope pos) ds (fun l => ∃ items, PL items ∧ l.length = items.length ∧ ∀ (i : Nat) (y : D), l[i]? = some y → ∃ d : D, items[i]? = some d ∧ R d y) := fun X F σ G H s Q k =>
  ef_lc (pos := pos) own (keep := fun _ => true) (R := R) hb hw ht hl (fun l e d hd => by
    obtain ⟨as, h1, h2, h3⟩ := he l e d hd
    exact ⟨as, h1, h2, ei_nil, fun _ => h3⟩) hs X F σ G H s Q fun p xs G' H' l x1 s1 np hg hd hl' hh r ⟨it, e, made⟩ => k p xs G' H' l x1 s1 np hg hd hl' hh r ⟨it, e, made.every⟩
end
end Dl


set_option Elab.async false
set_option maxRecDepth 100000
set_option linter.all false
set_option maxHeartbeats 2000000
namespace Dl
open PySem PySem.Spec PyProof.Rows L2
section
variable {I : Inf} {c : Ct} {ds : List SD} {A : After} {a b e : Expr} {P PA PB : D → Prop} {pos : Pos} {d : D}
theorem wk_tupP {tg : Expr} {PL : List D → Prop} (h : EvE I c e ds (fun d => ∃ l, d = .tuple l ∧ PL l)) : Walk I c tg e ds PL := fun X F =>
  ⟨_, pi_tup pe_w, fun σ G H s R k => h X F σ G H s _ fun v G1 H1 d x1 s1 r1 p1 => by
    obtain ⟨l, rfl, hl⟩ := p1
    obtain ⟨a, xs, rfl, h1, h2, h3⟩ := r1.tup'
    refine ⟨a, rfl, ⟨xs, by rw [F.K]; exact ex_t s1.ex h1⟩, ?_⟩
    have := k (Itt I.K a) G1 H1 l x1 s1 (yields_tup h1 h3) hl
    rw [F.K]; exact this⟩
/-- list(range(n)) -/
theorem ef_listRg {p p2 p3 : Pos} {n : Nat} (hg : I.sc.names.lookup ("list" : Str) = some .globalImplicit) (hm : I.mg "list" = none) (hg2 : I.sc.names.lookup ("range" : Str) = some .globalImplicit) (hm2 : I.mg "range" = none)
    (h : EvE I c e ds (· = .int (n : Nat))) (hn : n ≤ 10000)
    (hs : ∀ X, Fits I X → starEach [e] X.env = (false, eval e X.env) :: starEach [] X.env := by intros; rfl)
    (hs2 : ∀ X, Fits I X → starEach [.Call (.Name "range" p2) [e] [] p3] X.env = (false, eval (.Call (.Name "range" p2) [e] [] p3) X.env) :: starEach [] X.env := by intros; rfl) :
    EvF I c (.Call (.Name "list" p) [.Call (.Name "range" p2) [e] [] p3] [] pos) ds (· = intsD 0 n) := fun X F σ G H s Q k => by
  refine w_pe (pe_listRg F.calm (by show X.env.scope.names.lookup _ = _; rw [F.sc]; exact hg) (by rw [F.mg]; exact hm) (prg_1 (by show X.env.scope.names.lookup _ = _; rw [F.sc]; exact hg2) (by rw [F.mg]; exact hm2) pe_w (hs X F)) (hs2 X F)) ?_
  refine h X F σ G H s _ fun v G1 H1 d x1 s1 r1 p1 => ?_
  subst p1
  rw [r1.int']
  refine ⟨n, rfl, RgOk.of_le (by omega) (by omega) (by omega) (by omega), fun q nq => ?_⟩
  have nq0 : H q = none := by
    cases e : H q with
    | none => rfl
    | some o => exact absurd nq (x1.dom q (by rw [e]; exact fun z => nomatch z))
  have hr : rgV 0 (n : Int) = (List.range n).map fun i => V.int (0 + (i : Nat)) := by
    unfold rgV; rw [show ((n : Int) - 0).toNat = n by omega]
  have rp : RpA I.K G1 (intsD 0 n) (rgV 0 (n : Int)) := by
    rw [hr]
    unfold intsD
    have : ∀ l : List Nat, RpA I.K G1 (l.map fun i : Nat => PyData.int (0 + (i : Nat))) (l.map fun i : Nat => V.int (0 + (i : Nat))) := by
      intro l
      induction l with
      | nil => exact RpA.nil
      | cons x l ih => exact RpA.cons (by unfold Rp; rfl) ih
    exact this _
  exact k q _ G1 (upd H1 q (.lst (rgV 0 (n : Int)))) (intsD 0 n) ⟨x1.g, fun a o h1 h2 => by rw [upd_ne (fun e => by subst e; rw [x1.h a o h1 h2] at nq; cases nq)]; exact x1.h a o h1 h2, x1.nw, fun p h1 h2 => by
    by_cases e : p = q
    · subst e; rw [upd_same] at h2; cases h2
    · rw [upd_ne e] at h2; exact x1.dom p h1 h2⟩ (State.aside s1 nq) nq0 (s1.gnone nq) (s1.ndeck nq) (by rw [intsD_length]; exact Nat.le_trans hn (by decide)) upd_same rp rfl
end
end Dl


set_option Elab.async false
set_option maxRecDepth 100000
set_option linter.all false
set_option maxHeartbeats 2000000
namespace Dl
open PySem PySem.Spec PyProof.Rows L2
theorem RpA.eraseIdx {K : Frag} {G : Hp} : ∀ (n : Nat) {ds : List D} {vs : List V}, RpA K G ds vs → RpA K G (ds.eraseIdx n) (vs.eraseIdx n)
  | _, [], vs, h => by
    have := h.length
    cases vs with
    | nil => simpa using h
    | cons _ _ => simp at this
  | 0, d :: ds, vs, h => by obtain ⟨v, ws, rfl, h1, h2⟩ := h.inv; simpa using h2
  | n + 1, d :: ds, vs, h => by
    obtain ⟨v, ws, rfl, h1, h2⟩ := h.inv
    rw [List.eraseIdx_cons_succ, List.eraseIdx_cons_succ]
    exact RpA.cons h1 (RpA.eraseIdx n h2)
theorem seqIndex_nat {k n : Nat} (h : k < n) : seqIndex? (k : Int) n = some k := by
  unfold seqIndex?
  have h1 : ¬ ((k : Int) < 0) := by omega
  simp only [h1, if_false]
  have h2 : (0 : Int) ≤ k := by omega
  have h3 : (k : Int) < n := by omega
  simp [h2, h3]
section
variable {I : Inf} {c : Ct} {ds : List SD} {a b e : Expr} {pos : Pos} {A : After}
/-- x, y = two fresh lists -/
theorem rs_parFF {i j : Nat} {x y : Str} {px py pt : Pos} {kt k2 pt2} {PL PB : List D → Prop} (hi : I.N[i]? = some x) (hj : I.N[j]? = some y) (hij : i ≠ j) (hx : I.sc.names.lookup x = some .local) (hy : I.sc.names.lookup y = some .local)
    (ha : EvF I c a ds PL) (hb : EvF I c b ds PB) (hn : ∀ l e, PL l → PB e → A.nx ((ds.set i (.own l)).set j (.own e)))
    (hs1 : ∀ X, Fits I X → starEach [a, b] X.env = (false, eval a X.env) :: starEach [b] X.env := by intros; rfl) (hs2 : ∀ X, Fits I X → starEach [b] X.env = (false, eval b X.env) :: starEach [] X.env := by intros; rfl)
    (hw : ∀ env : Env, env.scope = I.sc → swappedStores [.Tuple [.Name x px, .Name y py] kt pt] (.Tuple [a, b] k2 pt2) env = pure (some [x, y]) := by intro env h; cases env; dsimp only at h; subst h; rfl)
    (hs : ∀ X, Fits I X → swapsWithSole [.Tuple [.Name x px, .Name y py] kt pt] (.Tuple [a, b] k2 pt2) pos.line X.env = pure false := by intros; rfl) :
    RunS I c (.Assign [.Tuple [.Name x px, .Name y py] kt pt] (.Tuple [a, b] k2 pt2) pos) ds A := fun X F σ G H E s k => by
  refine w_ps (ps_par (i := i) (j := j) F.calm (by rw [F.N]; exact F.nd) (by rw [F.N]; exact hi) (by rw [F.N]; exact hj) hij (by rw [F.sc]; exact hx) (by rw [F.sc]; exact hy) (pa_cons pe_w (pa_cons pe_w pa_nil (hs2 X F)) (hs1 X F)) (hw X.env F.sc) (hs X F)) ?_
  refine ha X F σ G H s _ fun p xs G1 H1 l x1 s1 np hg hd hl hh r1 p1 => hb X F σ G1 H1 s1 _ fun q ys G2 H2 m x2 s2 nq hgq hdq hlq hhq r2 p2 => ?_
  have hg2 : G2 p = none := by
    cases z : G2 p with
    | none => rfl
    | some o =>
      rcases x2.nw p (by rw [z]; exact fun q => nomatch q) with q | q
      · exact absurd hg q
      · rw [hh] at q; cases q
  have hh2 : H2 p = some (.lst xs) := x2.h _ _ hh hd
  have pq : p ≠ q := by rintro rfl; rw [hh] at nq; cases nq
  have so := own_newer (i := i) s2 (s.noOwn np) (.inl (S.h0none s np)) hg2 hd hl hh2 (r1.mono x2.g)
  have no2 : NoOwn (σ.set i (some (.ref p))) (ds.set i (.own l)) q := by
    intro i' l' h1 h2
    by_cases e : i = i'
    · subst e
      have hlt : i < σ.length := by
        rcases Nat.lt_or_ge i σ.length with z | z
        · exact z
        · rw [List.getElem?_eq_none (by rw [List.length_set]; exact z)] at h2; cases h2
      rw [List.getElem?_set_self hlt] at h2
      simp at h2; exact pq h2
    · rw [List.getElem?_set_ne e] at h1 h2
      exact s1.noOwn nq i' l' h1 h2
  have so2 := own_newer (i := j) so no2 (.inl (S.h0none s1 nq)) hgq hdq hlq hhq r2
  exact ⟨.ref p, .ref q, rfl, k.nx _ G2 H2 _ (x1.g.trans x2.g) so2 (hn l m p1 p2)⟩
/-- x.append(y.pop(e)), two owned lists -/
theorem rs_popAppend {i j : Nat} {x y : Str} {l m : List D} {p p2 p3 p4 q1 q2 q3 : Pos} {r : Int → Prop} (hN : I.N[i]? = some x) (hv : Vis I.sc x) (ho : ds[i]? = some (.own l)) (hl : l.length < Lm)
    (hN2 : I.N[j]? = some y) (hv2 : Vis I.sc y) (ho2 : ds[j]? = some (.own m)) (hij : i ≠ j) (h : EvE I c e ds (IsI r)) (hr : ∀ k, r k → 0 ≤ k ∧ k < m.length)
    (hn : ∀ k d, m[k]? = some d → A.nx ((ds.set j (.own (m.eraseIdx k))).set i (.own (l ++ [d]))))
    (h1 : (x == ("__debug__" : Str)) = false := by decide) (h2 : (x == ("__classdict__" : Str)) = false := by decide) (h3 : (y == ("__debug__" : Str)) = false := by decide) (h4 : (y == ("__classdict__" : Str)) = false := by decide)
    (hsx : ∀ X, Fits I X → starEach [e] X.env = (false, eval e X.env) :: starEach [] X.env := by intros; rfl) (hline : (p2.endLine == p3.line) = true := by rfl) (hline2 : (q2.endLine == q3.line) = true := by rfl)
    (hfew2 : ∀ X, Fits I X → ((((backTo q3 (starEach [e] X.env)).all fun x => !x.fst) && (backToKw q3 (keywordEach [] X.env)).all fun x => x.fst.isSome) && decide (([e].length + ([] : List Keyword).length + if ([] : List Keyword).isEmpty = true then 0 else 1) < 30)) = true := by intros; rfl)
    (hfew : ∀ X, Fits I X → ((((backTo p3 (starEach [.Call (.Attribute (.Name y q1) ("pop" : Str) q2) [e] [] q3] X.env)).all fun x => !x.fst) && (backToKw p3 (keywordEach [] X.env)).all fun x => x.fst.isSome) && decide (([Expr.Call (.Attribute (.Name y q1) ("pop" : Str) q2) [e] [] q3].length + ([] : List Keyword).length + if ([] : List Keyword).isEmpty = true then 0 else 1) < 30)) = true := by intros; rfl) :
    RunS I c (.Expr (.Call (.Attribute (.Name x p) ("append" : Str) p2) [.Call (.Attribute (.Name y q1) ("pop" : Str) q2) [e] [] q3] [] p3) p4) ds A := fun X F σ G H E s k => by
  have inner : PE X (.Call (.Attribute (.Name y q1) ("pop" : Str) q2) [e] [] q3) _ := pe_bm PySem.F.plainAttrs_list PySem.F.slot_list_pop PySem.F.type_list_pop mt_popAt (pe_var (i := j) (by rw [F.N]; exact hN2) (by rw [F.sc]; exact hv2) h3 h4) (pa_cons (pe_w (e := e)) pa_nil (hsx X F)) (hfew := hfew2 X F) (hline := hline2) (hs := hsx X F)
  have go : PE X (.Call (.Attribute (.Name x p) ("append" : Str) p2) [.Call (.Attribute (.Name y q1) ("pop" : Str) q2) [e] [] q3] [] p3) _ := pe_bm PySem.F.plainAttrs_list PySem.F.slot_list_append PySem.F.type_list_append mt_append (pe_var (i := i) (by rw [F.N]; exact hN) (by rw [F.sc]; exact hv) h1 h2) (pa_cons inner pa_nil) (hfew := hfew X F) (hline := hline)
  refine w_ps (ps_expr go) ?_
  obtain ⟨q, xs, e1, h0, g3, g4, g5, g6, g7⟩ := own_at s ho
  obtain ⟨q', zs, e1', h0', g3', g4', g5', g6', g7'⟩ := own_at s ho2
  have qq : q ≠ q' := by
    rintro rfl
    exact s.dist i j l m q hij ho ho2 e1 e1'
  refine ⟨.ref q, e1, .inl ⟨rfl, xs, SqL.of g6⟩, .ref q', e1', .inl ⟨rfl, zs, SqL.of g6'⟩, h X F σ G H s _ fun v G1 H1 d x1 s1 r1 p1 => ?_⟩
  obtain ⟨kk, rfl, hk⟩ := p1
  rw [r1.int']
  have hb := hr kk hk
  obtain ⟨k', rfl⟩ : ∃ k' : Nat, kk = k' := ⟨kk.toNat, by omega⟩
  obtain ⟨ys, a1, a2, a3⟩ := own_same s s1 ho e1
  obtain ⟨ws, b1, b2, b3⟩ := own_same s s1 ho2 e1'
  have hk' : k' < m.length := by omega
  have hwl := b2.length
  have hm : m[k']? = some m[k'] := List.getElem?_eq_getElem hk'
  obtain ⟨u, c1, c2⟩ := b2.get hm
  have b3' : m.length ≤ 100000 := b3
  refine ⟨q', ws, (k' : Nat), k', u, rfl, rfl, b1, by omega, by omega, ?_, c1, ?_⟩
  · rw [b2.length]; exact seqIndex_nat hk'
  have s2 := own_put (l' := m.eraseIdx k') s1 ho2 e1' (RpA.eraseIdx k' b2) (by rw [List.length_eraseIdx]; split <;> omega)
  have ho' : (ds.set j (.own (m.eraseIdx k')))[i]? = some (.own l) := by rw [List.getElem?_set_ne (Ne.symm hij)]; exact ho
  refine ⟨q, ys, u, rfl, rfl, by rw [upd_ne qq]; exact a1, by rw [a2.length]; exact Lm_lt (Nat.le_of_lt hl), ?_⟩
  exact k.nx σ G1 _ _ x1.g (own_put s2 ho' e1 (a2.append (.cons c2 .nil)) (by rw [List.length_append]; exact hl)) (hn k' _ hm)
end
end Dl


set_option Elab.async false
set_option maxRecDepth 100000
set_option linter.all false
set_option maxHeartbeats 2000000
namespace Dl
open PySem PySem.Spec PyProof.Rows L2
section
variable {I : Inf} {c : Ct} {ds : List SD} {a b e : Expr} {P PA PB : D → Prop} {pos : Pos} {d : D}
theorem rv_isB {x y : Bool} (hp : P (.bool (decide (x = y)))) : Rv I c ds rIsB (.bool x) (.bool y) P := fun σ G H u v s rx ry Q k => by
  rw [rx.bl', ry.bl']; exact ⟨x, y, rfl, rfl, k.now s .bl hp⟩
theorem rv_notB {x y : Bool} (hp : P (.bool (!decide (x = y)))) : Rv I c ds rNotB (.bool x) (.bool y) P := fun σ G H u v s rx ry Q k => by
  rw [rx.bl', ry.bl']; exact ⟨x, y, rfl, rfl, k.now s .bl hp⟩
theorem ev_isB {x y : Bool} (ha : EvE I c a ds (· = .bool x)) (hb : EvE I c b ds (· = .bool y)) : EvE I c (.Compare a [.Is] [b] pos) ds (· = .bool (decide (x = y))) :=
  ev_cmp (fun _ _ => op_isBl) (nobehind _ (by decide) (by decide)) ha hb fun d e hi hj => by rw [hi, hj]; exact rv_isB rfl
theorem ev_notB {x y : Bool} (ha : EvE I c a ds (· = .bool x)) (hb : EvE I c b ds (· = .bool y)) : EvE I c (.Compare a [.IsNot] [b] pos) ds (· = .bool (!decide (x = y))) :=
  ev_cmp (fun _ _ => op_notBl) (nobehind _ (by decide) (by decide)) ha hb fun d e hi hj => by rw [hi, hj]; exact rv_notB rfl
theorem et_isB {x y : Bool} (ha : EvE I c a ds (· = .bool x)) (hb : EvE I c b ds (· = .bool y)) : EvT I c (.Compare a [.Is] [b] pos) ds (· = decide (x = y)) :=
  et_cmp (fun _ _ => op_isBl) (nobehind _ (by decide) (by decide)) ha hb fun d e hi hj => by rw [hi, hj]; exact rv_isB rfl
theorem et_notB {x y : Bool} (ha : EvE I c a ds (· = .bool x)) (hb : EvE I c b ds (· = .bool y)) : EvT I c (.Compare a [.IsNot] [b] pos) ds (· = !decide (x = y)) :=
  et_cmp (fun _ _ => op_notBl) (nobehind _ (by decide) (by decide)) ha hb fun d e hi hj => by rw [hi, hj]; exact rv_notB rfl
def boolS (b : Bool) : Str := if b then "True" else "False"
theorem call_repr_bl {X : Cx} : CallR X (.builtin "repr") (fun xs H Q => ∃ b : Bool, xs = [.bl b] ∧ Q (.str (boolS b)) H) := by
  intro pins s σ H xs us Q J r h
  obtain ⟨b, rfl, q⟩ := h
  obtain ⟨u, rfl, e⟩ := vals1 r
  cases (show u = Value.bool b from e)
  refine PySem.P.repr_of_bool ⟨.str _, H, J.tok _, ⟨_, rfl⟩, ?_⟩
  exact q
theorem ev_reprB {b : Bool} {p : Pos} (hg : I.sc.names.lookup ("repr" : Str) = some .globalImplicit) (hm : I.mg "repr" = none) (ha : EvE I c e ds (· = .bool b)) (hs : ∀ X, Fits I X → starEach [e] X.env = (false, eval e X.env) :: starEach [] X.env := by intros; rfl) :
    EvE I c (.Call (.Name "repr" p) [e] [] pos) ds (· = .str (boolS b)) :=
  ev_callB (id := "repr") (fun X F => call_repr_bl) hg hm (by decide +kernel) (ea_1 ha hs) (he := hs) (fun l ⟨d, hl, hd⟩ σ G H vs s r Q k => by
    subst hl; subst hd
    obtain ⟨v, rfl, r1⟩ := rpa1 r
    rw [r1.bl']
    exact ⟨b, rfl, k.now s .str rfl⟩)
end
end Dl


set_option Elab.async false
set_option maxRecDepth 100000
set_option linter.all false
set_option maxHeartbeats 2000000
namespace Dl
open PySem PySem.Spec PyProof.Rows L2
theorem pe_callK0 {X : Cx} {CX : CXT} {k : Nat} {f : Addr} {fd : FuncData} {ps ks : List Str} {sp : Sp} {E : XK} {x : Str} {kws : List Keyword} {tk : TA} {p pos : Pos} {g : List Value → List Value → List Value} {gV : List V → List V → List V}
    (F : FnOk X.prog X.w X.K X.mg X.base CX k f fd ps sp) (hr : Room k X.A) (hg : Gl X x) (hm : X.mg x = some (.ref f)) (hk : PySem.W.keepIn X.K (.ref f) = true) (hb : KBinds X.K fd ps ks g gV) (hx : Passes CX X E) (hkw : PK X kws tk)
    (hall : (backToKw pos (keywordEach kws X.env)).all (·.1.isSome) = true := by rfl) (hks : (backToKw pos (keywordEach kws X.env)).filterMap (·.1) = ks := by rfl) (hdb : (x == ("__debug__" : Str)) = false := by decide)
    (hpl : ((backTo pos (starEach [] X.env)).any (·.1) || (backToKw pos (keywordEach kws X.env)).any (·.1.isNone)) = false := by rfl) :
    PE X (.Call (.Name x p) [] kws pos) (fun σ H Q => tk σ H fun zs H2 => sp (gV [] zs) H2 Q E) := by
  refine ⟨fun pins s σ H Q I h => ?_⟩
  refine wpAny_Call_Name_kw (ld_glob I hg hm ?_ hdb)
  refine PySem.W.callWith_KW0 (h₀ := X.base) I.ok.mod.kin hk hall ?_ hpl
  refine thn (hkw.run pos pins s σ H _ I h) fun ws s2 ⟨zs, H2, I2, rz, q2⟩ => ⟨I2.kIn, ?_⟩
  rw [hks]
  exact run_fnk F hr hb hx I2 .nil rz q2
/-- a def with its four parameters by name, the last one first -/
structure FnK4 (I : Inf) (x k1 k2 k3 k4 : Str) (sp : Sp) : Prop where
  ok : ∃ (f : Addr) (fd : FuncData) (ps : List Str) (g : List Value → List Value → List Value) (gV : List V → List V → List V), I.mg x = some (.ref f) ∧ PySem.W.keepIn I.K (.ref f) = true ∧ KBinds I.K fd ps [k1, k2, k3, k4] g gV ∧ (∀ a b c d, gV [] [a, b, c, d] = [d, c, b, a]) ∧ FnOk I.prog I.w I.K I.mg I.base CX0 I.k f fd ps sp
section
variable {I : Inf} {c : Ct} {ds : List SD} {e1 e2 e3 e4 : Expr} {P : D → Prop} {pos p q1 q2 q3 q4 : Pos} {d1 d2 d3 d4 : D}
theorem ev_callK4 {x k1 k2 k3 k4 : Str} {Pc : List AD → (D → Prop) → Prop} {R : D → Prop} (hf : FnK4 I x k1 k2 k3 k4 (spD I.K Pc)) (hg : I.sc.names.lookup x = some .globalImplicit)
    (h1 : EvE I c e1 ds (· = d1)) (h2 : EvE I c e2 ds (· = d2)) (h3 : EvE I c e3 ds (· = d3)) (h4 : EvE I c e4 ds (· = d4)) (hc : Pc [.dat d4, .dat d3, .dat d2, .dat d1] R) (hp : ∀ d, R d → P d)
    (hall : ∀ X, Fits I X → (backToKw pos (keywordEach [⟨some k1, e1, q1⟩, ⟨some k2, e2, q2⟩, ⟨some k3, e3, q3⟩, ⟨some k4, e4, q4⟩] X.env)).all (·.1.isSome) = true := by intros; rfl)
    (hks : ∀ X, Fits I X → (backToKw pos (keywordEach [⟨some k1, e1, q1⟩, ⟨some k2, e2, q2⟩, ⟨some k3, e3, q3⟩, ⟨some k4, e4, q4⟩] X.env)).filterMap (·.1) = [k1, k2, k3, k4] := by intros; rfl)
    (hdb : (x == ("__debug__" : Str)) = false := by decide)
    (hpl : ∀ X, Fits I X → ((backTo pos (starEach [] X.env)).any (·.1) || (backToKw pos (keywordEach [⟨some k1, e1, q1⟩, ⟨some k2, e2, q2⟩, ⟨some k3, e3, q3⟩, ⟨some k4, e4, q4⟩] X.env)).any (·.1.isNone)) = false := by intros; rfl) :
    EvE I c (.Call (.Name x p) [] [⟨some k1, e1, q1⟩, ⟨some k2, e2, q2⟩, ⟨some k3, e3, q3⟩, ⟨some k4, e4, q4⟩] pos) ds P := fun X F σ G H s Q k => by
  obtain ⟨f, fd, ps, g, gV, hm, hk, hb, hgV, G0⟩ := hf.ok
  have G1 : FnOk X.prog X.w X.K X.mg X.base CX0 I.k f fd ps (spD I.K Pc) := by rw [F.prog, F.w, F.K, F.mg, F.base]; exact G0
  refine w_pe (pe_callK0 G1 F.room (by show X.env.scope.names.lookup x = _; rw [F.sc]; exact hg) (by rw [F.mg]; exact hm) (by rw [F.K]; exact hk) (by rw [F.K]; exact hb) pass0 (pk_cons pe_w (pk_cons pe_w (pk_cons pe_w (pk_cons pe_w pk_nil)))) (hall X F) (hks X F) hdb (hpl X F)) ?_
  refine h1 X F σ G H s _ fun v1 G1 H1 y1 x1 s1 r1 p1 => h2 X F σ G1 H1 s1 _ fun v2 G2 H2 y2 x2 s2 r2 p2 => h3 X F σ G2 H2 s2 _ fun v3 G3 H3 y3 x3 s3 r3 p3 => h4 X F σ G3 H3 s3 _ fun v4 G4 H4 y4 x4 s4 r4 p4 => ?_
  subst p1; subst p2; subst p3; subst p4
  show spD I.K Pc (gV [] [v1, v2, v3, v4]) H4 Q E0
  rw [hgV]
  refine ⟨{ deck := c.Z.deck }, G4, [.dat y4, .dat y3, .dat y2, .dat y1], R, rfl, s4.ex, s4.deck, ⟨v4, _, rfl, r4, v3, _, rfl, Rp.mono x4.g _ r3, v2, _, rfl, Rp.mono (x3.trans x4).g _ r2, v1, _, rfl, Rp.mono ((x2.trans x3).trans x4).g _ r1, rfl⟩, hc, fun v G' H' d t r q => ?_⟩
  obtain ⟨s5, gr⟩ := State.after s4 t rfl (.inr rfl)
  exact k v G' H' d ((((x1.trans x2).trans x3).trans x4).trans gr) s5 r (hp d q)
end
end Dl


set_option Elab.async false
set_option maxRecDepth 100000
set_option linter.all false
set_option maxHeartbeats 2000000
namespace Dl
open PySem PySem.Spec PyProof.Rows L2
section
variable {I : Inf} {c : Ct} {ds : List SD} {a b e : Expr} {P PA PB : D → Prop} {pos : Pos} {d : D}
/-- a part of a list, of which only something is told -/
theorem ev_slLP {lo hi : Option Expr} {p2 : Pos} {PL PH : Option Int → Prop} (ha : EvE I c a ds PA) (h1 : EvO I c lo ds PL) (h2 : EvO I c hi ds PH)
    (h : ∀ x o u, PA x → PL o → PH u → ∃ l, x = .list l ∧ P (.list (cutD l o u))) : EvE I c (.Subscript a (.Slice lo hi none p2) pos) ds P := fun X F σ G H s Q k => by
  obtain ⟨tl, pl, ql⟩ := h1 X F
  obtain ⟨th, ph, qh⟩ := h2 X F
  refine w_pe (pe_slice sl_list pe_w pl ph) ?_
  refine ha X F σ G H s _ fun x G1 H1 d x1 s1 r1 p1 => ql σ G1 H1 s1 _ fun o G2 H2 x2 s2 p2 => qh σ G2 H2 s2 _ fun u G3 H3 x3 s3 p3 => ?_
  obtain ⟨l, rfl, hp⟩ := h d o u p1 p2 p3
  obtain ⟨a', xs, rfl, hq, hl, r⟩ := (r1.mono (x2.trans x3).g).lst'
  refine ⟨a', xs, rfl, SqL.of (s3.ex _ _ hq), fun p np => ?_⟩
  obtain ⟨s4, x4⟩ := s3.laid (o := .lst (cutV xs o u)) np
  exact k _ _ _ _ (((x1.trans x2).trans x3).trans x4) s4 (.lst upd_same (Nat.le_trans (cutD_length l o u) hl) ((r.cut o u).mono x4.g)) hp
/-- a sum of lists, of which only something is told -/
theorem ev_catLP (ha : EvE I c a ds PA) (hb : EvE I c b ds PB) (h : ∀ x y, PA x → PB y → ∃ l m, x = .list l ∧ y = .list m ∧ l.length + m.length ≤ Lm ∧ P (.list (l ++ m))) : EvE I c (.BinOp a .Add b pos) ds P :=
  ev_op (r := rCat) (fun X F => op_cat) ha hb fun d e pd pe σ G H x y s rx ry Q k => by
    obtain ⟨l, m, rfl, rfl, hl, hp⟩ := h d e pd pe
    obtain ⟨a1, xs, rfl, h1, l1, r1⟩ := rx.lst'
    obtain ⟨a2, ys, rfl, h2, l2, r2⟩ := ry.lst'
    refine ⟨a1, a2, xs, ys, rfl, rfl, s.ex _ _ h1, s.ex _ _ h2, by rw [r1.length, r2.length]; exact Lm_le hl, fun p np => ?_⟩
    obtain ⟨s4, x4⟩ := s.laid (o := .lst (xs ++ ys)) np
    exact k _ _ _ _ x4 s4 (.lst upd_same (by rw [List.length_append]; exact hl) ((r1.append r2).mono x4.g)) hp
theorem wk_listP {tg : Expr} {PL : List D → Prop} (h : EvE I c e ds (fun d => ∃ l, d = .list l ∧ PL l)) : Walk I c tg e ds PL := fun X F =>
  ⟨_, pi_list pe_w, fun σ G H s R k => h X F σ G H s _ fun v G1 H1 d x1 s1 r1 p1 => by
    obtain ⟨l, rfl, hl⟩ := p1
    obtain ⟨a, xs, rfl, h1, h2, h3⟩ := r1.lst'
    refine ⟨a, rfl, ⟨xs, SqL.of (s1.ex _ _ h1)⟩, ?_⟩
    have := k (Itl I.K a) G1 H1 l x1 s1 (yields_list h1 h3) hl
    rw [F.K]; exact this⟩
/-- lists of lists of ints in a test -/
theorem shaped_walls (ws : List (List Int)) : SeqAt.shaped (.list (ws.map fun r => PyData.tuple (r.map PyData.int))) = true := by
  have h1 : ∀ ns : List Int, PyData.canLayAll0 (ns.map PyData.int) = true := by
    intro ns
    induction ns with
    | nil => simp [PyData.canLayAll0]
    | cons n ns ih => simp [PyData.canLayAll0, PyData.canLay0, ih]
  have h2 : ∀ ws : List (List Int), PyData.canLayAll0 (ws.map fun r => PyData.tuple (r.map PyData.int)) = true := by
    intro ws
    induction ws with
    | nil => simp [PyData.canLayAll0]
    | cons r ws ih => simp [PyData.canLayAll0, PyData.canLay0, ih, h1]
  have h3 : ∀ ws : List (List Int), PyData.depthAll (ws.map fun r => PyData.tuple (r.map PyData.int)) ≤ 2 := by
    intro ws
    induction ws with
    | nil => simp [PyData.depthAll]
    | cons r ws ih =>
      have := depth_ints r
      simp [PyData.depthAll, PyData.depth]; omega
  have h4 := h3 ws
  unfold SeqAt.shaped
  simp only [PyData.canLay0, h2, Bool.true_and, decide_eq_true_eq]
  simp only [PyData.depth]; omega
theorem eqv_nilD (l : List D) : PyData.eqv (.list l) (.list []) = decide (l = []) := by
  cases l with
  | nil => simp [PyData.eqv, PyData.eqvAll]
  | cons n ns => simp [PyData.eqv, PyData.eqvAll]
end
end Dl


set_option Elab.async false
set_option maxRecDepth 100000
set_option linter.all false
set_option maxHeartbeats 1000000
/-! zip of two sequences, each a list or a tuple -/
namespace Dl
open PySem PySem.Spec PyProof.Rows L2
/-- which sequence: a tuple (true) or a list -/
def sqQ (t : Bool) (h : Heap) (l : Addr) (xs : Array Value) : Prop := match t with
  | true => h.IsTuple l xs
  | false => h.IsList l xs
def itQ (t : Bool) (h : Heap) (i l : Addr) (k : Nat) : Prop := match t with
  | true => h.IsTupleIter i l k
  | false => h.IsListIter i l k
theorem sqQ.ext {t : Bool} {h h' : Heap} {a b : Addr} {xs : Array Value} (x : sqQ t h a xs) (e : Heap.ExtBut b h h') (n : a ≠ b) : sqQ t h' a xs := by
  cases t
  · exact Heap.IsList.extBut x e n
  · exact Heap.IsTuple.extBut x e n
theorem itQ.ext {t : Bool} {h h' : Heap} {a b l : Addr} {k : Nat} (x : itQ t h a l k) (e : Heap.ExtBut b h h') (n : a ≠ b) : itQ t h' a l k := by
  cases t
  · exact Heap.IsListIter.extBut x e n
  · exact Heap.IsTupleIter.extBut x e n
theorem itQ.up {t : Bool} {h h' : Heap} {a l : Addr} {k : Nat} (x : itQ t h a l k) (e : ∀ o, h.get? a = some o → h'.get? a = some o) : itQ t h' a l k := by
  cases t
  · exact Heap.IsListIter.at x e
  · exact Heap.IsTupleIter.at x e
theorem itQ.got {t : Bool} {h : Heap} {a l : Addr} {k : Nat} (x : itQ t h a l k) : ∃ o fs, h.get? a = some o ∧ o.data = .fields fs := by
  cases t
  · obtain ⟨o, e, _, d⟩ := x; exact ⟨o, _, e, d⟩
  · obtain ⟨o, e, _, d⟩ := x; exact ⟨o, _, e, d⟩
section
variable {prog : Program} {w : World} {A : Around} {E : Value → Shared → Prop} {s : Shared}
theorem nextQ_item {t : Bool} {it l : Addr} {i : Nat} {items : Array Value} {x : Value} {Q : Value → Shared → Prop} (hi : itQ t s.heap it l i) (hl : sqQ t s.heap l items) (hx : items[i]? = some x)
    (q : ∀ h', itQ t h' it l (i + 1) → Heap.SameBut it s.heap h' → Q x { s with heap := h' }) : wpAny (model prog w) A (Builtin.SmallTypes.nextOf (.ref it)) Q E s := by
  cases t
  · exact wpAny_nextOf_list_item hi hl hx q
  · exact RZ.nextOf_tuple_item hi hl hx q
theorem nextQ_end {t : Bool} {it l : Addr} {i : Nat} {items : Array Value} {Q : Value → Shared → Prop} (hh : A.handled = none) (hi : itQ t s.heap it l i) (hl : sqQ t s.heap l items) (hx : items[i]? = none)
    (q : ∀ h' e, Heap.ExtBut it s.heap h' → (∃ o, h'.get? e = some o ∧ o.cls = .type "StopIteration") → E (.ref e) { s with heap := h' }) : wpAny (model prog w) A (Builtin.SmallTypes.nextOf (.ref it)) Q E s := by
  cases t
  · exact wpAny_nextOf_list_end hh hi hl hx q
  · exact RZ.nextOf_tuple_end hh hi hl hx q

theorem zipQ_item {t1 t2 : Bool} {z TI TO i1 i2 l1 l2 : Addr} {k1 k2 : Nat} {xs ys : Array Value} {x y a b : Value} {Q : Value → Shared → Prop} (D : ZipApart z TI TO i1 i2 l1 l2)
    (uz : IsZip s.heap z TI TO .none) (uI : IsPair s.heap TI (.ref i1) (.ref i2)) (uO : IsPair s.heap TO a b)
    (u1 : itQ t1 s.heap i1 l1 k1) (u2 : itQ t2 s.heap i2 l2 k2) (v1 : sqQ t1 s.heap l1 xs) (v2 : sqQ t2 s.heap l2 ys) (hx : xs[k1]? = some x) (hy : ys[k2]? = some y)
    (q : ∀ h', IsZip h' z TI TO (rawInt s.heap.objs.size) → IsPair h' TO x y → itQ t1 h' i1 l1 (k1 + 1) → itQ t2 h' i2 l2 (k2 + 1) → IsPair h' s.heap.objs.size x y → h'.objs.size = s.heap.objs.size + 1 →
      (∀ c o, c ≠ z → c ≠ TO → c ≠ i1 → c ≠ i2 → s.heap.get? c = some o → h'.get? c = some o) → Q (.ref s.heap.objs.size) { s with heap := h' }) :
    wpAny (model prog w) A (Builtin.«zip.__next__» ⟨[.ref z], []⟩) (fun fin s' => ∃ v, fin = .done (.ret v) ∧ Q v s') E s := by
  show wpAny _ _ (field (.ref z) 2 >>= _) _ _ _; refine wpAny_bind (wpAny_field uz rfl (x := .bool false) rfl ?_)
  show wpAny _ _ (field (.ref z) 3 >>= _) _ _ _; refine wpAny_bind (wpAny_field uz rfl (x := .ref TI) rfl (wpAny_bind (wpAny_seqItems uI rfl ?_)))
  show wpAny _ _ (Builtin.SmallTypes.ownedTupleIsFree (.ref z) >>= _) _ _ _; refine wpAny_bind ?_
  unfold Builtin.SmallTypes.ownedTupleIsFree; refine wpAny_bind (wpAny_field uz rfl (x := .none) rfl (wpAny_pure ?_)); simp only [if_true]
  refine wpAny_bind (wpAny_rule (wpAny_bind (wpAny_field uz rfl (x := .ref TO) rfl (wpAny_bind (wpAny_setField_rec uz (by simp) fun g1 w1 e1 => ?_)))))
  replace w1 : IsZip g1 z TI TO .ellipsis := w1
  refine wpAny_bind ?_; simp only [List.zipIdx_cons, List.zipIdx_nil, List.forIn_cons, List.forIn_nil]
  refine wpAny_bind (wpAny_bind (wpAny_onRaise ?_)); show wpAny _ _ (Builtin.SmallTypes.nextOf (.ref i1) >>= _) _ _ _
  refine wpAny_bind (nextQ_item (u1.ext e1.extBut D.i1z) (v1.ext e1.extBut D.l1z) hx fun g2 m1 e2 => wpAny_pure ?_)
  have o2 : IsPair g2 TO a b := e2.extBut _ _ D.TOi1 (e1.extBut _ _ D.TOz uO)
  refine wpAny_bind (wpAny_seqItems o2 rfl (wpAny_bind (wpAny_updateSeq_pair o2 fun g3 o3 e3 => ?_)))
  replace o3 : IsPair g3 TO x b := o3
  refine wpAny_bind (wpAny_letGo (wpAny_pure (wpAny_bind (wpAny_bind (wpAny_onRaise ?_)))))
  show wpAny _ _ (Builtin.SmallTypes.nextOf (.ref i2) >>= _) _ _ _
  refine wpAny_bind (nextQ_item (((u2.ext e1.extBut D.i2z).ext e2.extBut D.i12.symm).ext e3.extBut D.TOi2.symm) (((v2.ext e1.extBut D.l2z).ext e2.extBut D.l2i1).ext e3.extBut D.l2TO) hy fun g4 m2 e4 => wpAny_pure ?_)
  have o4 : IsPair g4 TO x b := e4.extBut _ _ D.TOi2 o3
  refine wpAny_bind (wpAny_seqItems o4 rfl (wpAny_bind (wpAny_updateSeq_pair o4 fun g5 o5 e5 => ?_)))
  replace o5 : IsPair g5 TO x y := o5
  refine wpAny_bind (wpAny_letGo (wpAny_pure (wpAny_pure (wpAny_bind (wpAny_seqItems o5 rfl (wpAny_bind (wpAny_newTuple ?_)))))))
  have sz : g5.objs.size = s.heap.objs.size := by rw [e5.1, e4.1, e3.1, e2.1, e1.1]
  have w5 : IsZip g5 z TI TO .ellipsis := e5.extBut _ _ D.TOz.symm (e4.extBut _ _ D.i2z.symm (e3.extBut _ _ D.TOz.symm (e2.extBut _ _ D.i1z.symm w1)))
  have k5 : ∀ c o, c ≠ z → c ≠ TO → c ≠ i1 → c ≠ i2 → s.heap.get? c = some o → g5.get? c = some o := fun c o n1 n2 n3 n4 e =>
    e5.extBut _ _ n2 (e4.extBut _ _ n4 (e3.extBut _ _ n2 (e2.extBut _ _ n3 (e1.extBut _ _ n1 e))))
  have m15 := ((m1.ext e3.extBut D.TOi1.symm).ext e4.extBut D.i12).ext e5.extBut D.TOi1.symm
  have m25 := m2.ext e5.extBut D.TOi2.symm
  have zl : z < g5.objs.size := Heap.lt_size w5
  show wpAny _ _ (Builtin.SmallTypes.ownedTupleHandOut (.ref z) (.ref g5.objs.size) >>= _) _ _ _; refine wpAny_bind ?_
  unfold Builtin.SmallTypes.ownedTupleHandOut
  have w6 : IsZip (g5.push { cls := .type "tuple", data := .seq #[x, y] }) z TI TO .ellipsis := Heap.get?_push_of_some _ w5
  refine wpAny_bind (wpAny_setField_rec w6 (by simp) fun g7 w7 e7 => ?_)
  replace w7 : IsZip g7 z TI TO (rawInt g5.objs.size) := w7
  refine wpAny_setField_rec w7 (by simp) fun g8 w8 e8 => ?_
  replace w8 : IsZip g8 z TI TO (rawInt g5.objs.size) := w8
  have up : ∀ c o, c ≠ z → g5.get? c = some o → g8.get? c = some o := fun c o n1 e => e8.extBut _ _ n1 (e7.extBut _ _ n1 (Heap.get?_push_of_some _ e))
  have p8 : IsPair g8 g5.objs.size x y := e8.extBut _ _ (Nat.ne_of_gt zl) (e7.extBut _ _ (Nat.ne_of_gt zl) (Heap.get?_push_size _ rfl))
  have s8 : g8.objs.size = g5.objs.size + 1 := by rw [e8.1, e7.1, Heap.size_push]
  rw [sz] at w8 p8 s8
  refine wpAny_pure ⟨_, rfl, ?_⟩; show Q (.ref g5.objs.size) _; rw [sz]
  exact q g8 w8 (up _ _ D.TOz o5) (m15.up fun o e => up _ o D.i1z e) (m25.up fun o e => up _ o D.i2z e) p8 s8 fun c o n1 n2 n3 n4 e => up c o n1 (k5 c o n1 n2 n3 n4 e)

theorem zipQ_end {t1 t2 : Bool} {z TI TO i1 i2 l1 l2 : Addr} {k1 k2 : Nat} {xs ys : Array Value} {a b : Value} {Q : Fin → Shared → Prop} (hh : A.handled = none) (D : ZipApart z TI TO i1 i2 l1 l2)
    (uz : IsZip s.heap z TI TO .none) (uI : IsPair s.heap TI (.ref i1) (.ref i2)) (uO : IsPair s.heap TO a b)
    (u1 : itQ t1 s.heap i1 l1 k1) (u2 : itQ t2 s.heap i2 l2 k2) (v1 : sqQ t1 s.heap l1 xs) (v2 : sqQ t2 s.heap l2 ys) (hend : xs[k1]? = none ∨ ys[k2]? = none)
    (q : ∀ h' e, (∀ c o, c ≠ z → c ≠ TO → c ≠ i1 → c ≠ i2 → s.heap.get? c = some o → h'.get? c = some o) → (∃ o, h'.get? e = some o ∧ o.cls = .type "StopIteration") → E (.ref e) { s with heap := h' }) :
    wpAny (model prog w) A (Builtin.«zip.__next__» ⟨[.ref z], []⟩) Q E s := by
  show wpAny _ _ (field (.ref z) 2 >>= _) _ _ _; refine wpAny_bind (wpAny_field uz rfl (x := .bool false) rfl ?_)
  show wpAny _ _ (field (.ref z) 3 >>= _) _ _ _; refine wpAny_bind (wpAny_field uz rfl (x := .ref TI) rfl (wpAny_bind (wpAny_seqItems uI rfl ?_)))
  show wpAny _ _ (Builtin.SmallTypes.ownedTupleIsFree (.ref z) >>= _) _ _ _; refine wpAny_bind ?_
  unfold Builtin.SmallTypes.ownedTupleIsFree; refine wpAny_bind (wpAny_field uz rfl (x := .none) rfl (wpAny_pure ?_)); simp only [if_true]
  refine wpAny_bind (wpAny_rule (wpAny_bind (wpAny_field uz rfl (x := .ref TO) rfl (wpAny_bind (wpAny_setField_rec uz (by simp) fun g1 w1 e1 => ?_)))))
  replace w1 : IsZip g1 z TI TO .ellipsis := w1
  refine wpAny_bind ?_; simp only [List.zipIdx_cons, List.zipIdx_nil, List.forIn_cons, List.forIn_nil]
  refine wpAny_bind (wpAny_bind (wpAny_onRaise ?_)); show wpAny _ _ (Builtin.SmallTypes.nextOf (.ref i1) >>= _) _ _ _
  cases hx : xs[k1]? with
  | none =>
    refine wpAny_bind (nextQ_end hh (u1.ext e1.extBut D.i1z) (v1.ext e1.extBut D.l1z) hx fun g2 e e2 ⟨oe, r1, r2⟩ => ?_)
    have w2 : IsZip g2 z TI TO .ellipsis := e2 _ _ D.i1z.symm w1
    have ez : e ≠ z := fun x => by rw [x, w2] at r1; cases r1; simp at r2
    refine wpAny_setField_rec w2 (by simp) fun g3 _ e3 => q g3 e (fun c o n1 _ n3 _ x => e3.extBut _ _ n1 (e2 _ _ n3 (e1.extBut _ _ n1 x))) ⟨oe, e3.extBut _ _ ez r1, r2⟩
  | some x =>
    have hy : ys[k2]? = none := by
      rcases hend with h | h
      · rw [hx] at h; cases h
      · exact h
    refine wpAny_bind (nextQ_item (u1.ext e1.extBut D.i1z) (v1.ext e1.extBut D.l1z) hx fun g2 m1 e2 => wpAny_pure ?_)
    have o2 : IsPair g2 TO a b := e2.extBut _ _ D.TOi1 (e1.extBut _ _ D.TOz uO)
    refine wpAny_bind (wpAny_seqItems o2 rfl (wpAny_bind (wpAny_updateSeq_pair o2 fun g3 o3 e3 => ?_)))
    refine wpAny_bind (wpAny_letGo (wpAny_pure (wpAny_bind (wpAny_bind (wpAny_onRaise ?_)))))
    show wpAny _ _ (Builtin.SmallTypes.nextOf (.ref i2) >>= _) _ _ _
    refine wpAny_bind (nextQ_end hh (((u2.ext e1.extBut D.i2z).ext e2.extBut D.i12.symm).ext e3.extBut D.TOi2.symm) (((v2.ext e1.extBut D.l2z).ext e2.extBut D.l2i1).ext e3.extBut D.l2TO) hy fun g4 e e4 ⟨oe, r1, r2⟩ => ?_)
    have w4 : IsZip g4 z TI TO .ellipsis := e4 _ _ D.i2z.symm (e3.extBut _ _ D.TOz.symm (e2.extBut _ _ D.i1z.symm w1))
    have ez : e ≠ z := fun x => by rw [x, w4] at r1; cases r1; simp at r2
    refine wpAny_setField_rec w4 (by simp) fun g5 _ e5 => q g5 e (fun c o n1 n2 n3 n4 x => e5.extBut _ _ n1 (e4 _ _ n4 (e3.extBut _ _ n2 (e2.extBut _ _ n3 (e1.extBut _ _ n1 x))))) ⟨oe, e5.extBut _ _ ez r1, r2⟩
end
/-! a zip made -/
abbrev zq1 (n1 : String) (h : Heap) (l1 : Addr) : Heap := h.push { cls := .type n1, data := .fields #[.ref l1, .int 0 0] }
abbrev zq2 (n1 n2 : String) (h : Heap) (l1 l2 : Addr) : Heap := (zq1 n1 h l1).push { cls := .type n2, data := .fields #[.ref l2, .int 0 0] }
abbrev zq3 (n1 n2 : String) (h : Heap) (l1 l2 : Addr) : Heap := (zq2 n1 n2 h l1 l2).push { cls := .type "tuple", data := .seq #[.ref h.objs.size, .ref (zq1 n1 h l1).objs.size] }
abbrev zq4 (n1 n2 : String) (h : Heap) (l1 l2 : Addr) : Heap := (zq3 n1 n2 h l1 l2).push { cls := .type "tuple", data := .seq #[.none, .none] }
abbrev zq5 (n1 n2 : String) (h : Heap) (l1 l2 : Addr) : Heap := (zq4 n1 n2 h l1 l2).push { cls := .type "zip", data := .fields #[.none, .bool false, .bool false, .ref (zq2 n1 n2 h l1 l2).objs.size, .ref (zq3 n1 n2 h l1 l2).objs.size] }
theorem newTL (l1 l2 : Addr) (xs ys : Array Value) : Meets (Builtin.«zip.__new__» ⟨[.type "zip", .ref l1, .ref l2], []⟩) (fun _ R s => s.heap.IsTuple l1 xs ∧ s.heap.IsList l2 ys ∧
      R (.ok (.ret (.ref (zq4 "tuple_iterator" "list_iterator" s.heap l1 l2).objs.size))) { s with heap := zq5 "tuple_iterator" "list_iterator" s.heap l1 l2 }) :=
  .of_wp fun prog w A R s h => by
    obtain ⟨hp, g, d, tk, os⟩ := s; obtain ⟨v1, v2, h⟩ := h
    have hsub := sub_zip
    have a1 : Heap.IsTuple (Shared.heap ⟨hp, g, d, tk, os⟩) l1 xs := v1
    have a2 : Heap.IsList (Shared.heap ⟨hp.push { cls := .type "tuple_iterator", data := .fields #[.ref l1, .int 0 0] }, g, d, tk, os⟩) l2 ys := Heap.IsList.push v2 _
    wp_walk using wpAny_pyIter_tuple a1, wpAny_pyIter_list a2
    exact ⟨_, rfl, h⟩
theorem newLT (l1 l2 : Addr) (xs ys : Array Value) : Meets (Builtin.«zip.__new__» ⟨[.type "zip", .ref l1, .ref l2], []⟩) (fun _ R s => s.heap.IsList l1 xs ∧ s.heap.IsTuple l2 ys ∧
      R (.ok (.ret (.ref (zq4 "list_iterator" "tuple_iterator" s.heap l1 l2).objs.size))) { s with heap := zq5 "list_iterator" "tuple_iterator" s.heap l1 l2 }) :=
  .of_wp fun prog w A R s h => by
    obtain ⟨hp, g, d, tk, os⟩ := s; obtain ⟨v1, v2, h⟩ := h
    have hsub := sub_zip
    have a1 : Heap.IsList (Shared.heap ⟨hp, g, d, tk, os⟩) l1 xs := v1
    have a2 : Heap.IsTuple (Shared.heap ⟨hp.push { cls := .type "list_iterator", data := .fields #[.ref l1, .int 0 0] }, g, d, tk, os⟩) l2 ys := Heap.IsTuple.push v2 _
    wp_walk using wpAny_pyIter_list a1, wpAny_pyIter_tuple a2
    exact ⟨_, rfl, h⟩
def nmQ : Bool → String
  | true => "tuple_iterator"
  | false => "list_iterator"
section
variable {prog : Program} {w : World} {A : Around} {E : Value → Shared → Prop} {s : Shared}
theorem fresh_it {t : Bool} {h : Heap} {a l : Addr} (e : h.get? a = some { cls := .type (nmQ t), data := .fields #[.ref l, .int 0 0] }) : itQ t h a l 0 := by
  cases t
  · exact ⟨_, e, rfl, rfl⟩
  · exact ⟨_, e, rfl, rfl⟩
/-- zip(x, y) of a tuple and a list, or of a list and a tuple -/
theorem zipQ_call {t : Bool} {l1 l2 : Addr} {xs ys : Array Value} {Q : Value → Shared → Prop} (v1 : sqQ t s.heap l1 xs) (v2 : sqQ (!t) s.heap l2 ys)
    (q : ∀ h', IsZip h' (s.heap.objs.size + 4) (s.heap.objs.size + 2) (s.heap.objs.size + 3) .none → IsPair h' (s.heap.objs.size + 2) (.ref s.heap.objs.size) (.ref (s.heap.objs.size + 1)) →
      IsPair h' (s.heap.objs.size + 3) .none .none → itQ t h' s.heap.objs.size l1 0 → itQ (!t) h' (s.heap.objs.size + 1) l2 0 → (∀ c o, s.heap.get? c = some o → h'.get? c = some o) → Q (.ref (s.heap.objs.size + 4)) { s with heap := h' }) :
    wpAny (model prog w) A (call (.type "zip") [.ref l1, .ref l2]) Q E s := by
  have key : ∀ n1 n2 : String, (n1 = nmQ t) → (n2 = nmQ (!t)) → ∃ v : Value, v = .ref (zq4 n1 n2 s.heap l1 l2).objs.size ∧ Q v { s with heap := zq5 n1 n2 s.heap l1 l2 } := by
    rintro n1 n2 rfl rfl
    refine ⟨_, rfl, ?_⟩
    have z1 : (zq1 (nmQ t) s.heap l1).objs.size = s.heap.objs.size + 1 := Heap.size_push ..
    have z2 : (zq2 (nmQ t) (nmQ (!t)) s.heap l1 l2).objs.size = s.heap.objs.size + 2 := by rw [Heap.size_push, z1]
    have z3 : (zq3 (nmQ t) (nmQ (!t)) s.heap l1 l2).objs.size = s.heap.objs.size + 3 := by rw [Heap.size_push, z2]
    have z4 : (zq4 (nmQ t) (nmQ (!t)) s.heap l1 l2).objs.size = s.heap.objs.size + 4 := by rw [Heap.size_push, z3]
    have g5 : (zq5 (nmQ t) (nmQ (!t)) s.heap l1 l2).get? (zq4 (nmQ t) (nmQ (!t)) s.heap l1 l2).objs.size = some _ := Heap.get?_push_size _ rfl
    have g4 : (zq5 (nmQ t) (nmQ (!t)) s.heap l1 l2).get? (zq3 (nmQ t) (nmQ (!t)) s.heap l1 l2).objs.size = some _ := Heap.get?_push_of_some _ (Heap.get?_push_size _ rfl)
    have g3 : (zq5 (nmQ t) (nmQ (!t)) s.heap l1 l2).get? (zq2 (nmQ t) (nmQ (!t)) s.heap l1 l2).objs.size = some _ := Heap.get?_push_of_some _ (Heap.get?_push_of_some _ (Heap.get?_push_size _ rfl))
    have g2 : (zq5 (nmQ t) (nmQ (!t)) s.heap l1 l2).get? (zq1 (nmQ t) s.heap l1).objs.size = some _ := Heap.get?_push_of_some _ (Heap.get?_push_of_some _ (Heap.get?_push_of_some _ (Heap.get?_push_size _ rfl)))
    have g1 : (zq5 (nmQ t) (nmQ (!t)) s.heap l1 l2).get? s.heap.objs.size = some _ := Heap.get?_push_of_some _ (Heap.get?_push_of_some _ (Heap.get?_push_of_some _ (Heap.get?_push_of_some _ (Heap.get?_push_size _ rfl))))
    rw [z2, z3, z4] at g5
    rw [z1, z2] at g3
    rw [z3] at g4
    rw [z1] at g2
    rw [z4]
    exact q _ g5 g3 g4 (fresh_it g1) (fresh_it g2) fun c o x => Heap.get?_push_of_some _ (Heap.get?_push_of_some _ (Heap.get?_push_of_some _ (Heap.get?_push_of_some _ (Heap.get?_push_of_some _ x))))
  cases t
  · obtain ⟨_, rfl, k⟩ := key "list_iterator" "tuple_iterator" rfl rfl
    exact callType_new F.called_zip (by decide) (F.typeCall_zip_2 _ _) (F.newCall_zip_2 _ _) (fun obj => F.args_object_init_3 obj _ _) F.entry_zip_new (newLT l1 l2 xs ys) ⟨v1, v2, ⟨_, Heap.get?_push_size _ rfl, rfl⟩, k⟩
  · obtain ⟨_, rfl, k⟩ := key "tuple_iterator" "list_iterator" rfl rfl
    exact callType_new F.called_zip (by decide) (F.typeCall_zip_2 _ _) (F.newCall_zip_2 _ _) (fun obj => F.args_object_init_3 obj _ _) F.entry_zip_new (newTL l1 l2 xs ys) ⟨v1, v2, ⟨_, Heap.get?_push_size _ rfl, rfl⟩, k⟩
theorem pyNextQ_item {t1 t2 : Bool} {z TI TO i1 i2 l1 l2 : Addr} {k1 k2 : Nat} {xs ys : Array Value} {x y a b : Value} {Q : Option Value → Shared → Prop} (D : ZipApart z TI TO i1 i2 l1 l2)
    (uz : IsZip s.heap z TI TO .none) (uI : IsPair s.heap TI (.ref i1) (.ref i2)) (uO : IsPair s.heap TO a b)
    (u1 : itQ t1 s.heap i1 l1 k1) (u2 : itQ t2 s.heap i2 l2 k2) (v1 : sqQ t1 s.heap l1 xs) (v2 : sqQ t2 s.heap l2 ys) (hx : xs[k1]? = some x) (hy : ys[k2]? = some y)
    (q : ∀ h', IsZip h' z TI TO (rawInt s.heap.objs.size) → IsPair h' TO x y → itQ t1 h' i1 l1 (k1 + 1) → itQ t2 h' i2 l2 (k2 + 1) → IsPair h' s.heap.objs.size x y → h'.objs.size = s.heap.objs.size + 1 →
      (∀ c o, c ≠ z → c ≠ TO → c ≠ i1 → c ≠ i2 → s.heap.get? c = some o → h'.get? c = some o) → Q (some (.ref s.heap.objs.size)) { s with heap := h' }) : wpAny (model prog w) A (pyNext (.ref z)) Q E s := by
  have ty : s.TypeIs (.ref z) "zip" := ⟨_, uz, rfl⟩
  unfold pyNext
  refine wpAny_bind (wpAny_attempt (wpAny_callSpecial?_slot (name := Str.ofString "__next__") ty F.slot_zip_next (wpAny_call_entry F.slot_zip_next ty F.entry_zip_next ?_ (F.args_zip_next_1 _))))
  exact zipQ_item D uz uI uO u1 u2 v1 v2 hx hy fun h' b1 b2 b3 b4 b5 b6 b7 => wpAny_pure (q h' b1 b2 b3 b4 b5 b6 b7)
theorem pyNextQ_end {t1 t2 : Bool} {z TI TO i1 i2 l1 l2 : Addr} {k1 k2 : Nat} {xs ys : Array Value} {a b : Value} {Q : Option Value → Shared → Prop} (hh : A.handled = none) (D : ZipApart z TI TO i1 i2 l1 l2)
    (uz : IsZip s.heap z TI TO .none) (uI : IsPair s.heap TI (.ref i1) (.ref i2)) (uO : IsPair s.heap TO a b)
    (u1 : itQ t1 s.heap i1 l1 k1) (u2 : itQ t2 s.heap i2 l2 k2) (v1 : sqQ t1 s.heap l1 xs) (v2 : sqQ t2 s.heap l2 ys) (hend : xs[k1]? = none ∨ ys[k2]? = none)
    (q : ∀ h', (∀ c o, c ≠ z → c ≠ TO → c ≠ i1 → c ≠ i2 → s.heap.get? c = some o → h'.get? c = some o) → Q none { s with heap := h' }) : wpAny (model prog w) A (pyNext (.ref z)) Q E s := by
  have ty : s.TypeIs (.ref z) "zip" := ⟨_, uz, rfl⟩
  unfold pyNext
  refine wpAny_bind (wpAny_attempt (wpAny_callSpecial?_slot (name := Str.ofString "__next__") ty F.slot_zip_next (wpAny_call_entry F.slot_zip_next ty F.entry_zip_next ?_ (F.args_zip_next_1 _))))
  refine zipQ_end hh D uz uI uO u1 u2 v1 v2 hend fun h' e hk ⟨o, r1, r2⟩ => ?_
  exact wpAny_bind (wpAny_isInstance (T := "StopIteration") (b := true) ⟨o, r1, r2⟩ isSubtype_stop (wpAny_pure (q _ hk)))
end
/-- the sequence at a -/
def SqQ (t : Bool) (K : Frag) (H : Hp) (a : Addr) (xs : List V) : Prop := match t with
  | true => SqT K H a xs
  | false => SqL K H a xs
def ItzQ (t1 t2 : Bool) (K : Frag) (a b : Addr) : It :=
  ⟨fun i H => ∃ (xs ys : List V) (x y : V), SqQ t1 K H a xs ∧ SqQ t2 K H b ys ∧ xs[i]? = some x ∧ ys[i]? = some y,
    fun i H v H' => ∃ T x y, v = .ref T ∧ H T = none ∧ H' = upd H T (.tup [x, y]) ∧ (∀ xs, SqQ t1 K H a xs → xs[i]? = some x) ∧ ∀ ys, SqQ t2 K H b ys → ys[i]? = some y,
    fun i H => ∃ xs ys : List V, SqQ t1 K H a xs ∧ SqQ t2 K H b ys ∧ (xs.length ≤ i ∨ ys.length ≤ i)⟩
theorem seqQ {t : Bool} {X : Cx} {pins : List (Addr × Obj)} {s : Shared} {σ : L2.St} {H : Hp} {a : Addr} {xs : List V} (I : Inv X pins σ H s) (h : SqQ t X.K H a xs) : ∃ its : List Value, Vals xs its ∧ sqQ t s.heap a its.toArray := by
  cases t
  · obtain ⟨its, r, p, _⟩ := I.list h; exact ⟨its, r, p.isList⟩
  · obtain ⟨its, r, p, _⟩ := I.tuple h; exact ⟨its, r, p⟩
theorem injQ {t : Bool} {X : Cx} {pins : List (Addr × Obj)} {s : Shared} {σ : L2.St} {H : Hp} {a : Addr} {xs ys : List V} (I : Inv X pins σ H s) (h : SqQ t X.K H a xs) (h' : SqQ t X.K H a ys) : xs = ys := by
  cases t
  · exact I.list_inj h h'
  · exact I.tuple_inj h h'
end Dl


set_option Elab.async false
set_option maxRecDepth 100000
set_option linter.all false
set_option maxHeartbeats 1000000
namespace Dl
open PySem PySem.Spec PyProof.Rows L2
theorem turnQ {t1 t2 : Bool} {P : Program} {w : World} {K : Frag} {elts : List Expr} {kk : Nat} {tpos : Pos} {a b z TI TO i1 i2 : Addr} (D : ZipApart z TI TO i1 i2 a b) :
    Turn P w K (.Tuple elts kk tpos) (ItzQ t1 t2 K a b) [z, TI, TO, i1, i2] z (fun i h => IsZip h z TI TO .none ∧ IsPair h TI (.ref i1) (.ref i2) ∧ (∃ x y, IsPair h TO x y) ∧ itQ t1 h i1 a i ∧ itQ t2 h i2 b i) where
  mem := by simp
  obj := fun i h st c hc => by
    obtain ⟨uz, uI, ⟨x, y, uO⟩, m1, m2⟩ := st
    obtain ⟨o1, f1, e1, d1⟩ := m1.got
    obtain ⟨o2, f2, e2, d2⟩ := m2.got
    have sp : c = z ∨ c = TI ∨ c = TO ∨ c = i1 ∨ c = i2 := by simpa using hc
    rcases sp with q | q | q | q | q <;> rw [q]
    · exact ⟨_, uz, fun v q => nomatch q⟩
    · exact ⟨_, uI, fun v q => nomatch q⟩
    · exact ⟨_, uO, fun v q => nomatch q⟩
    · exact ⟨o1, e1, fun v q => by rw [d1] at q; cases q⟩
    · exact ⟨o2, e2, fun v q => by rw [d2] at q; cases q⟩
  keep := fun i h h' st k => by
    obtain ⟨uz, uI, ⟨x, y, uO⟩, m1, m2⟩ := st
    exact ⟨k z (by simp) _ uz, k TI (by simp) _ uI, ⟨x, y, k TO (by simp) _ uO⟩, m1.up fun o q => k i1 (by simp) o q, m2.up fun o q => k i2 (by simp) o q⟩
  item := by
    intro X hP hw hK hc i pins s σ H E I hf st hg
    subst hP hw hK
    obtain ⟨uz, uI, ⟨x0, y0, uO⟩, m1, m2⟩ := st
    obtain ⟨xs, ys, x, y, qx, qy, hx, hy⟩ := hg
    obtain ⟨its, rv, p⟩ := seqQ I qx
    obtain ⟨its2, rv2, p2⟩ := seqQ I qy
    obtain ⟨u, hu, ru⟩ := rv.get hx
    obtain ⟨u2, hu2, ru2⟩ := rv2.get hy
    have zl : z < s.heap.objs.size := Heap.lt_size uz
    refine pyNextQ_item D uz uI uO m1 m2 p p2 (x := u) (y := u2) (by simpa using hu) (by simpa using hu2) fun h' z' O' n1 n2 hT hsz hk => ?_
    refine ⟨_, rfl, wpAny_letOwnedTupleGo_zip (s := { s with heap := h' }) z' fun h2 z2 sb => ?_⟩
    have T2 : h2.get? s.heap.objs.size = some { cls := .type "tuple", data := .seq #[u, u2] } := (sb.2 _ (Nat.ne_of_gt zl)).trans hT
    have nw : ObjOk X.prog X.w (upd H s.heap.objs.size (.tup [x, y])) h2 s.heap.objs.size (.tup [x, y]) := ⟨by show 2 ≤ sizeLine; decide, [u, u2], .cons ru (.cons ru2 .nil), ⟨_, T2, rfl, _, rfl⟩⟩
    have all5 : ∀ c, c ∉ [z, TI, TO, i1, i2] → c ≠ z ∧ c ≠ TI ∧ c ≠ TO ∧ c ≠ i1 ∧ c ≠ i2 := fun c h => by simpa using h
    have I1 : Inv X pins σ (upd H s.heap.objs.size (.tup [x, y])) { s with heap := h2 } :=
      I.turnedNew (t' := s.toks) (ch := [z, TI, TO, i1, i2]) (fun c o hb q => by
        obtain ⟨a1, a2, a3, a4, a5⟩ := all5 c hb
        exact (sb.2 c a1).trans (hk c o a1 a3 a4 a5 q)) hf (Nat.le_refl _) nw
    refine ⟨.ref s.heap.objs.size, _, I1, rfl, ⟨_, x, y, rfl, I.hok.fresh (Nat.le_refl _), rfl, fun l hl => by rw [injQ I hl qx]; exact hx, fun l hl => by rw [injQ I hl qy]; exact hy⟩, ⟨z2, (sb.2 _ D.TIz).trans (hk _ _ D.TIz D.TITO D.TIi1 D.TIi2 uI), ⟨u, u2, (sb.2 _ D.TOz).trans O'⟩, n1.up fun o q => (sb.2 _ D.i1z).trans q, n2.up fun o q => (sb.2 _ D.i2z).trans q⟩, fun c hcm => ?_⟩
    obtain ⟨o1, f1, e1, _⟩ := m1.got
    obtain ⟨o2, f2, e2, _⟩ := m2.got
    have lt : c < s.heap.objs.size := by
      have sp : c = z ∨ c = TI ∨ c = TO ∨ c = i1 ∨ c = i2 := by simpa using hcm
      rcases sp with q | q | q | q | q <;> rw [q]
      · exact zl
      · exact Heap.lt_size uI
      · exact Heap.lt_size uO
      · exact Heap.lt_size e1
      · exact Heap.lt_size e2
    rw [upd_ne (Nat.ne_of_lt lt)]
    exact (hf c hcm).1
  done := by
    intro X hP hw hK hc i pins s σ H E I hf st hg
    subst hP hw hK
    obtain ⟨uz, uI, ⟨x0, y0, uO⟩, m1, m2⟩ := st
    obtain ⟨xs, ys, qx, qy, hend⟩ := hg
    obtain ⟨its, rv, p⟩ := seqQ I qx
    obtain ⟨its2, rv2, p2⟩ := seqQ I qy
    have l1 := rv.length
    have l2 := rv2.length
    have he : its.toArray[i]? = none ∨ its2.toArray[i]? = none := hend.elim (fun q => .inl (by simp; omega)) (fun q => .inr (by simp; omega))
    have all5 : ∀ c, c ∉ [z, TI, TO, i1, i2] → c ≠ z ∧ c ≠ TI ∧ c ≠ TO ∧ c ≠ i1 ∧ c ≠ i2 := fun c h => by simpa using h
    exact pyNextQ_end (I.ok.hd hc) D uz uI uO m1 m2 p p2 he fun h' hk => ⟨rfl, I.turnedL (t' := s.toks) (ch := [z, TI, TO, i1, i2]) (fun c o hb q => by
      obtain ⟨a1, a2, a3, a4, a5⟩ := all5 c hb
      exact hk c o a1 a3 a4 a5 q) hf⟩
  self := fun A i s Q E st h => wpAny_pyIter_zip st.1 h

def iZipQ (t : Bool) (K : Frag) (ta : TA) : TI := fun σ H R => ta σ H fun vs H1 => ∃ a b xs ys, vs = [.ref a, .ref b] ∧ SqQ t K H1 a xs ∧ SqQ (!t) K H1 b ys ∧ R (ItzQ t (!t) K a b) H1
theorem sqQ.lt {t : Bool} {h : Heap} {l : Addr} {xs : Array Value} (x : sqQ t h l xs) : l < h.objs.size := by
  cases t
  · obtain ⟨o, e, _⟩ := x; exact Heap.lt_size e
  · obtain ⟨o, e, _⟩ := x; exact Heap.lt_size e
theorem pi_zipQ {t : Bool} {X : Cx} {e e2 : Expr} {ta : TA} {p pos tpos : Pos} {elts : List Expr} {kk : Nat} (hg : Gl X "zip") (hm : X.mg "zip" = none) (ha : PA X [e, e2] ta)
    (hs : starEach [e, e2] X.env = (false, eval e X.env) :: starEach [e2] X.env := by rfl) (hpl : (backTo pos (starEach [e2] X.env)).any (·.1) = false := by rfl) :
    PI X (.Tuple elts kk tpos) (.Call (.Name "zip" p) [e, e2] [] pos) (iZipQ t X.K ta) := by
  refine ⟨fun pins s σ H R I h => Call_ (ld_blt I hg hm PyProof.Rows.boot_zip (PyProof.Rows.callWith_type1 (thn (ha.run pos pins s σ H _ I h) fun us s1 ⟨vs, H1, I1, r1, a, b, xs, ys, ex, qx, qy, q⟩ => ?_) hs hpl))⟩
  subst ex
  obtain ⟨u, us', rfl, ru, rr⟩ : ∃ u us', us = u :: us' ∧ RelV (.ref a) u ∧ Vals [.ref b] us' := by cases r1 with | cons r rr => exact ⟨_, _, rfl, r, rr⟩
  obtain ⟨u2, rfl, ru2⟩ := vals1 rr
  cases ru
  cases ru2
  have f5 : ∀ c, c ∈ [s1.heap.objs.size + 4, s1.heap.objs.size + 2, s1.heap.objs.size + 3, s1.heap.objs.size, s1.heap.objs.size + 1] → FpOk X pins H1 c := fun c hcm => by
    have sp : c = s1.heap.objs.size + 4 ∨ c = s1.heap.objs.size + 2 ∨ c = s1.heap.objs.size + 3 ∨ c = s1.heap.objs.size ∨ c = s1.heap.objs.size + 1 := by simpa using hcm
    have le : s1.heap.objs.size ≤ c := by rcases sp with z | z | z | z | z <;> rw [z] <;> first | exact Nat.le_add_right _ _ | exact Nat.le_refl _
    exact I1.fpOk le (I1.hok.fresh le)
  obtain ⟨its, rv, p1⟩ := seqQ I1 qx
  obtain ⟨its2, rv2, p2⟩ := seqQ I1 qy
  refine zipQ_call p1 p2 fun h' hz hTI hTO m1 m2 hk => wpAny_pyIter_zip hz ?_
  exact ⟨s1.heap.objs.size + 4, [s1.heap.objs.size + 4, s1.heap.objs.size + 2, s1.heap.objs.size + 3, s1.heap.objs.size, s1.heap.objs.size + 1], _, _, H1, rfl, I1.kept (t' := s1.toks) hk, turnQ (PySem.W.ktu_apart s1.heap.objs.size a b p1.lt p2.lt), ⟨hz, hTI, ⟨_, _, hTO⟩, m1, m2⟩, f5, q⟩

/-! as a walk over data -/
def KnQ (t : Bool) (K : Frag) (G : Hp) (a : Addr) (xs : List V) : Prop := match t with
  | true => SqT K G a xs
  | false => G a = some (.lst xs)
theorem KnQ.up {t : Bool} {K : Frag} {G H : Hp} {a : Addr} {xs : List V} (e : Ex G H) (h : KnQ t K G a xs) : SqQ t K H a xs := by
  cases t
  · exact SqL.of (e _ _ h)
  · exact ex_t e h
theorem KnQ.mono {t : Bool} {K : Frag} {G H : Hp} {a : Addr} {xs : List V} (e : Ex G H) (h : KnQ t K G a xs) : KnQ t K H a xs := by
  cases t
  · exact e _ _ h
  · exact ex_t e h
theorem yieldsQ {t1 t2 : Bool} {K : Frag} {a b : Addr} {xs ys : List V} {l m : List D} {G : Hp} (h : KnQ t1 K G a xs) (r : RpA K G l xs) (h' : KnQ t2 K G b ys) (r' : RpA K G m ys) : Yields K (ItzQ t1 t2 K a b) G (zipL l m) := fun Z G0 H0 σ ds G1 H x s => by
  have hq : SqQ t1 K H a xs := (h.mono x).up s.ex
  have hq' : SqQ t2 K H b ys := (h'.mono x).up s.ex
  refine ⟨fun i d hi => ?_, ⟨xs, ys, hq, hq', ?_⟩⟩
  · obtain ⟨d1, d2, g1, g2, rfl⟩ := zipL_get hi
    obtain ⟨v, h1, h2⟩ := r.get g1
    obtain ⟨w, h3, h4⟩ := r'.get g2
    exact ⟨⟨xs, ys, v, w, hq, hq', h1, h3⟩, fun y H' ⟨T, w1, w2, e1, hT, e2, q, q'⟩ => by
      subst e1; subst e2
      have t1 := q xs hq
      have t2 := q' ys hq'
      rw [h1] at t1; cases t1
      rw [h3] at t2; cases t2
      exact State.tupled s hT (h2.mono x) (h4.mono x)⟩
  · rw [r.length, r'.length]; unfold zipL; rw [List.length_map, List.length_zip]; omega
def seqD (t : Bool) (l : List D) : D := match t with
  | true => .tuple l
  | false => .list l
theorem seqD_kn {t : Bool} {K : Frag} {G : Hp} {l : List D} {v : V} (h : Rp K G (seqD t l) v) : ∃ a xs, v = .ref a ∧ KnQ t K G a xs ∧ RpA K G l xs := by
  cases t
  · obtain ⟨a, xs, rfl, h1, _, h3⟩ := h.lst'; exact ⟨a, xs, rfl, h1, h3⟩
  · obtain ⟨a, xs, rfl, h1, _, h3⟩ := h.tup'; exact ⟨a, xs, rfl, h1, h3⟩
section
variable {I : Inf} {c : Ct} {ds : List SD} {e : Expr} {pos : Pos}
/-- zip of a tuple and a list (t), or of a list and a tuple -/
theorem wk_zipQ {elts : List Expr} {e2 : Expr} {kk : Nat} {tpos p : Pos} {l m : List D} (t : Bool) (hg : I.sc.names.lookup ("zip" : Str) = some .globalImplicit) (hm : I.mg "zip" = none) (h : EvE I c e ds (· = seqD t l)) (h' : EvE I c e2 ds (· = seqD (!t) m))
    (hs : ∀ X, Fits I X → starEach [e, e2] X.env = (false, eval e X.env) :: starEach [e2] X.env := by intros; rfl) (hs2 : ∀ X, Fits I X → starEach [e2] X.env = (false, eval e2 X.env) :: starEach [] X.env := by intros; rfl) (hpl : ∀ X, Fits I X → (backTo pos (starEach [e2] X.env)).any (·.1) = false := by intros; rfl) :
    Walk I c (.Tuple elts kk tpos) (.Call (.Name "zip" p) [e, e2] [] pos) ds (· = zipL l m) := fun X F =>
  ⟨_, pi_zipQ (t := t) (by show X.env.scope.names.lookup _ = _; rw [F.sc]; exact hg) (by rw [F.mg]; exact hm) (pa_cons pe_w (pa_cons pe_w pa_nil (hs2 X F)) (hs X F)) (hs X F) (hpl X F), fun σ G H s R k => h X F σ G H s _ fun v G1 H1 d x1 s1 r1 p1 => h' X F σ G1 H1 s1 _ fun v2 G2 H2 d2 x2 s2 r2 p2 => by
    subst p1; subst p2
    obtain ⟨a, xs, rfl, h1, h3⟩ := seqD_kn (r1.mono x2.g)
    obtain ⟨b, ys, rfl, g1, g3⟩ := seqD_kn r2
    rw [F.K]
    exact ⟨a, b, xs, ys, rfl, h1.up s2.ex, g1.up s2.ex, k _ G2 H2 _ (x1.trans x2) s2 (yieldsQ h1 h3 g1 g3) rfl⟩⟩
end
end Dl


set_option Elab.async false
set_option linter.all false
/-! a comprehension that is owned; an owned list known for one expression only -/
namespace Dl
open PySem L2
section
variable {I : Inf} {c : Ct} {ds : List SD} {e a b : Expr} {P PA PB : D → Prop} {pos : Pos} {A : After} {PL : List D → Prop}
theorem rs_setLcF {i : Nat} {y : Str} {py : Pos} {elt tg iter : Expr} {ifs : List Expr} {scope : Scope} {spos : Pos} (own : List (Str × Nat)) {asg : D → List (Nat × D) → Prop} {PL : List D → Prop} {keep : D → Bool} {R : D → D → Prop}
    (hN : I.N[i]? = some y) (hyl : I.sc.names.lookup y = some .local) (hl1 : (py.line == pos.line) = true) (hny : (scope.names.any fun (n, k) => n == y && (k == .local || k == .cell)) = false)
    (hb : blkC I.N I.sc scope own = true) (hw : Walk I c tg iter ds PL) (ht : TgE (I.blk scope) tg asg) (hl : ∀ items, PL items → items.length ≤ Lm)
    (he : ∀ items, PL items → ∀ d ∈ items, ∃ as, asg d as ∧ (∀ q ∈ as, q.1 ∈ own.map (fun x : Str × Nat => x.2)) ∧ EvIs (I.blk scope) c ifs (setDs (wipeDs ds (own.map (fun x : Str × Nat => x.2))) as) (keep d) ∧ (keep d = true → EvE (I.blk scope) c elt (setDs (wipeDs ds (own.map (fun x : Str × Nat => x.2))) as) (R d)))
    (hn : ∀ items l, PL items → Made keep R items l → A.nx (ds.set i (.own l)))
    (hs : ∀ X, Fits I X → ∀ x, foldedSetIterable iter X.env x = pure x := by intros; rfl) :
    RunS I c (.Assign [.Name y py] (.ListComp elt [⟨tg, iter, ifs, 0⟩] scope pos) spos) ds A := fun X F σ G H E s k => by
  obtain ⟨wi, hi, qi⟩ := hw X F
  obtain ⟨g, hg, qg⟩ := ht
  have hk : scope.kind = .function := (blkOk_by hb).kind
  have key : tLc wi g (uI (I.blk scope) ifs) (uE (I.blk scope) elt) (own.map (fun x : Str × Nat => x.2)) σ H (fun v H1 => gName i v σ H1 E.nx) := by
    have := ef_lc_core own hb hi qi hg qg hl he X F σ G H s
    exact this (fun v H1 => gName i v σ H1 E.nx) (fun p xs G1 H1 l x1 s1 np hgp hd hll hh r1 ⟨items, pl, made⟩ => by
      exact k.nx _ G1 H1 _ x1.g (own_new s s1 np hgp hll hh r1) (hn items l pl made))
  exact w_ps (ps_setLc (own := own) F.calm (by rw [F.N]; exact F.nd) (by rw [F.N]; exact hN) (by rw [F.sc]; exact hyl) (sw_true (by rw [F.sc]; exact F.kind) (by rw [F.sc]; exact hyl) hl1 hny) hi (by rw [F.N, F.sc]; exact blkOk_by hb)
    (fun s H C cl fp => hg _ (F.blk hk s H C cl fp)) (fun s H C cl fp => pts_u (F.blk hk s H C cl fp)) (fun s H C cl fp => pe_u (F.blk hk s H C cl fp)) (hs X F)) key

/-- G without p -/
def less1 (G : Hp) (p : Addr) : Hp := fun a => if a = p then none else G a
theorem less1_ne {G : Hp} {p a : Addr} (h : a ≠ p) : less1 G p a = G a := if_neg h
theorem less1_self {G : Hp} {p : Addr} : less1 G p p = none := if_pos rfl
/-- what does not lean on lists -/
inductive Flat : D → Prop where
  | int (i : Int) : Flat (.int i)
  | bl (b : Bool) : Flat (.bool b)
  | tup (r : List Int) : Flat (.tuple (r.map PyData.int))
theorem Flat.less {K : Frag} {G : Hp} {p : Addr} {xs : List V} {d : D} {v : V} (hp : G p = some (.lst xs)) (f : Flat d) (h : Rp K G d v) : Rp K (less1 G p) d v := by
  cases f with
  | int i => rw [h.int']; exact .int
  | bl b => rw [h.bl']; exact .bl
  | tup r =>
    obtain ⟨a, ys, rfl, q, hl, rr⟩ := h.tup'
    refine .tup ?_ hl (RpA.ints.mpr (RpA.ints.mp rr))
    rcases q with (q | ⟨o, q⟩) | q
    · refine .inl (.inl ?_)
      rw [less1_ne (fun z => by rw [z, hp] at q; cases q)]; exact q
    · refine .inl (.inr ⟨o, ?_⟩)
      rw [less1_ne (fun z => by rw [z, hp] at q; cases q)]; exact q
    · exact .inr q
/-- an owned list is known while an expression is reckoned whose value does not lean on it -/
theorem ev_borrow {i : Nat} {l : List D} (h : ds[i]? = some (.own l)) (he : EvE I c e (ds.set i (.dat (.list l))) P) (hf : ∀ d, P d → Flat d) : EvE I c e ds P := fun X F σ G H s Q k => by
  obtain ⟨p, xs0, hp, h0, h1, h2, h3, h4, h5⟩ := own_at s h
  obtain ⟨xs, s1, ex, r1⟩ := own_know s h hp
  have hH : H p = some (.lst xs) := s1.ex _ _ upd_same
  refine he X F σ _ H s1 Q fun v G' H' d gr s' r pd => ?_
  have hp' : G' p = some (.lst xs) := gr.g _ _ upd_same
  have eg : Ex G (less1 G' p) := fun a o ha => by
    rw [less1_ne (fun z => by rw [z, h1] at ha; cases ha)]
    exact gr.g a o (Ex.new h1 a o ha)
  have le : Ex (less1 G' p) G' := fun a o ha => by
    by_cases z : a = p
    · rw [z, less1_self] at ha; cases ha
    · rwa [less1_ne z] at ha
  have gr2 : Gr c.Z G H (less1 G' p) H' := by
    refine ⟨eg, gr.h, fun q hq => ?_, gr.dom⟩
    by_cases z : q = p
    · rw [z, less1_self] at hq; exact absurd rfl hq
    · rw [less1_ne z] at hq
      rcases gr.nw q hq with w | w
      · rw [upd_ne z] at w; exact .inl w
      · exact .inr w
  have t : State I.K c.Z c.G0 c.H0 (less1 G' p) H' [] [] := by
    refine ⟨le.trans s'.ex, s.exg.trans eg, fun q hq => s'.nw q (fun z => hq ?_), s'.exm, ?_, rfl, s'.giv, fun j sd hj => by simp at hj, fun j m d1 d2 q _ hj => by simp at hj⟩
    · by_cases w : q = p
      · rw [w, less1_self]
      · rw [less1_ne w]; exact z
    · have hd := s'.deck
      unfold DeckIn at *
      split
      · trivial
      · rename_i dk cc hq
        rw [hq] at hd
        obtain ⟨d1, d2, d3, rest⟩ := hd
        have nn : ∀ q, G' q = none → less1 G' p q = none := fun q hq => by
          by_cases w : q = p
          · rw [w, less1_self]
          · rw [less1_ne w]; exact hq
        exact ⟨nn _ d1, nn _ d2, d3, rest⟩
  exact k v (less1 G' p) H' d gr2 (State.regrow s t gr2) ((hf d pd).less hp' r) pd
end
end Dl


set_option Elab.async false
set_option maxRecDepth 100000
set_option linter.all false
set_option maxHeartbeats 1000000
/-! a law's beginning: the script, the deck made of it -/
namespace Dl
open PySem PySem.Spec PyProof.Rows L2
theorem pick_rev (items : Array Value) : slicePick items none none (some (-1)) = items.toList.reverse.toArray := PySem.W.krv_pick items
theorem Vals.rev {xs : List V} {us : List Value} (r : Vals xs us) : Vals xs.reverse us.reverse := by
  induction r with
  | nil => exact .nil
  | @cons x u xs us h t ih =>
    rw [List.reverse_cons, List.reverse_cons]
    exact ih.append (.cons h .nil)
/-- e[::-1] of a list -/
theorem pe_rev {X : Cx} {e : Expr} {te ts : TE} {p1 p2 p3 pos : Pos} {j} (he : PE X e te) (hst : PE X (.UnaryOp .USub (.Constant (.int 1) j p1) p3) ts) :
    PE X (.Subscript e (.Slice none none (some (.UnaryOp .USub (.Constant (.int 1) j p1) p3)) p2) pos) (fun σ H Q => te σ H fun x H1 => ts σ H1 fun y H2 => ∃ a xs, x = .ref a ∧ y = .int (-1) ∧ SqL X.K H2 a xs ∧ ∀ p, H2 p = none → Q (.ref p) (upd H2 p (.lst xs.reverse))) := by
  refine ⟨fun pins s σ H Q I h => Subscript_ (thn (he.run pins s σ H _ I h) fun v s1 ⟨x, H1, I1, r1, q1⟩ => wpAny_Slice ?_)⟩
  rw [evalPart_none, evalPart_some]
  refine wpAny_pure (wpAny_pure (thn (hst.run pins s1 σ H1 _ I1 q1) fun vk s3 ⟨y, H3, I3, ry, a, xs, ex, ey, hx, q⟩ => ?_))
  subst ex; subst ey
  obtain ⟨tk, rfl⟩ := ry
  cases r1
  have I4 : Inv X pins σ H3 { s3 with heap := s3.heap.push { cls := .type "slice", data := .fields #[.none, .none, .int (-1) tk] } } := I3.kept (t' := s3.toks) fun b ob q => Heap.get?_push_of_some _ q
  obtain ⟨its, r, ht, hz⟩ := I4.list hx
  have hlen := r.length
  show wpAny (model X.prog X.w) X.A (subscriptTail e (.Slice none none (some (.UnaryOp .USub (.Constant (.int 1) j p1) p3)) p2) (.ref a) (.ref s3.heap.objs.size)) (EP X pins σ Q) X.xe { s3 with heap := s3.heap.push { cls := .type "slice", data := .fields #[.none, .none, .int (-1) tk] } }
  refine PyProof.Rows.tail_any (ops := [.ref a, .ref s3.heap.objs.size]) ht.isList.typeIs slot_list_getitem.lookup ?_ (by with_unfolding_all rfl)
  refine wpAny_getItem_list_slice ht.isList (Heap.IsSliceOf.new ..) .none .none (.int (-1) tk) (by decide) ?_ (by rw [List.size_toArray]; omega)
  rw [pick_rev]
  refine ⟨.ref _, _, I4.laid (t' := s3.toks) (o := .lst xs.reverse) (fun b ob q => Heap.get?_push_of_some _ q) (Nat.le_refl _) ?_, rfl, q _ (I4.hok.fresh (Nat.le_refl _))⟩
  exact ⟨by rw [List.length_reverse]; exact hz, its.reverse, 0, Vals.rev r, by
    have := Heap.get?_push_size (s3.heap.push { cls := .type "slice", data := .fields #[.none, .none, .int (-1) tk] }) (o := { cls := .type "list", data := .seq its.toArray.toList.reverse.toArray }) rfl
    simpa using this⟩
section
variable {I : Inf} {c : Ct} {ds : List SD} {e : Expr} {P : D → Prop} {pos : Pos} {A : After}
theorem SqL.keep {K : Frag} {H H' : Hp} {a : Addr} {xs : List V} (k : ∀ o, H a = some o → H' a = some o) (h : SqL K H a xs) : SqL K H' a xs := by
  rcases h with (h | ⟨o, h⟩) | h
  · exact .inl (.inl (k _ h))
  · exact .inl (.inr ⟨o, k _ h⟩)
  · exact .inr h
/-- script[:m], a fresh list of ints -/
theorem ef_script {i m : Nat} {x : Str} {p p1 p2 : Pos} {j} {a : Addr} {ns : List Int} (hN : I.N[i]? = some x) (hv : Vis I.sc x) (hd : ds[i]? = some (.raw (.ref a))) (hs : SqL I.K c.H0 a (ns.map V.int)) (hz : c.Z = {}) (hl : ns.length ≤ 1000)
    (h1 : (x == ("__debug__" : Str)) = false := by decide) (h2 : (x == ("__classdict__" : Str)) = false := by decide) :
    EvF I c (.Subscript (.Name x p) (.Slice none (some (.Constant (.int (m : Nat)) j p1)) none p2) pos) ds (· = (ns.take m).map PyData.int) := fun X F σ G H s Q k => by
  have hz' : ∀ b, ¬ inZ c.Z b := fun b z => by rw [hz] at z; rcases z with z | z <;> cases z
  refine w_pe (pe_slice sl_list (pe_var (i := i) (by rw [F.N]; exact hN) (by rw [F.sc]; exact hv) h1 h2) po_none (po_some pe_int)) ?_
  have hq := s.slots i _ hd
  refine ⟨.ref a, ?_, ?_⟩
  · have : (σ[i]?).join = some (V.ref a) := hq
    cases e : σ[i]? with
    | none => rw [e] at this; cases this
    | some o => rw [e] at this; rw [show o = some (V.ref a) from this]
  refine ⟨_, rfl, a, ns.map V.int, rfl, by rw [F.K]; exact SqL.keep (fun o h => s.exm a o h (hz' a)) hs, fun q hq0 => ?_⟩
  have e : cutV (ns.map V.int) none (some ((m : Nat) : Int)) = (ns.take m).map V.int := by
    unfold cutV
    rw [HT.sIx_none, HT.sIx_nat, List.drop_zero, Nat.sub_zero, ← List.map_take, List.length_map]
    rcases Nat.le_total m ns.length with h | h
    · rw [Nat.min_eq_left h]
    · rw [Nat.min_eq_right h, List.take_of_length_le (Nat.le_refl _), List.take_of_length_le h]
  rw [e]
  have s' := s.aside (o := .lst ((ns.take m).map V.int)) hq0
  refine k q _ G _ _ ⟨Ex.refl G, fun b o h _ => Ex.new hq0 b o h, fun b hb => .inl hb, fun b hb => ?_⟩ s' hq0 (s.gnone hq0) (s.ndeck hq0) (by rw [List.length_map, List.length_take]; show _ ≤ 100000; omega) upd_same (RpA.ints.mpr rfl) rfl
  by_cases z : b = q
  · rw [z, upd_same]; exact fun z => nomatch z
  · rw [upd_ne z]; exact hb
/-- e[::-1] as a fresh list -/
theorem ef_rev {l : List D} {p1 p2 p3 : Pos} {j} (h : EvE I c e ds (· = .list l)) : EvF I c (.Subscript e (.Slice none none (some (.UnaryOp .USub (.Constant (.int 1) j p1) p3)) p2) pos) ds (· = l.reverse) := fun X F σ G H s Q k =>
  w_pe (pe_rev pe_w pe_w) (h X F σ G H s _ fun v G1 H1 d x1 s1 r1 p1 => (show EvE I c _ ds (· = .int (-1)) from ev_neg (i := 1) ev_int) X F σ G1 H1 s1 _ fun w G2 H2 d2 x2 s2 r2 p2 => by
    subst p1; subst p2
    obtain ⟨a, xs, rfl, h1, h2, h3⟩ := (r1.mono x2.g).lst'
    refine ⟨a, xs, rfl, r2.int', SqL.of (s2.ex _ _ h1), fun q hq => ?_⟩
    have rr : ∀ {ds : List D} {vs : List V}, RpA I.K G2 ds vs → RpA I.K G2 ds.reverse vs.reverse := by
      intro ds
      induction ds with
      | nil => intro vs h; unfold RpA at h; subst h; exact RpA.nil
      | cons d ds ih =>
        intro vs h
        obtain ⟨v, ws, rfl, g1, g2⟩ := h.inv
        rw [List.reverse_cons, List.reverse_cons]
        exact (ih g2).append (RpA.cons g1 RpA.nil)
    have hqH : H q = none := by
      cases z : H q with
      | none => rfl
      | some o => exact absurd hq (x2.dom q (x1.dom q (by rw [z]; exact fun z => nomatch z)))
    refine k q _ G2 _ _ ((x1.trans x2).trans ⟨Ex.refl G2, fun b o h _ => Ex.new hq b o h, fun b hb => .inl hb, fun b hb => ?_⟩) (s2.aside hq) hqH (s2.gnone hq) (s2.ndeck hq) (by rw [List.length_reverse]; exact h2) upd_same (rr h3) rfl
    by_cases z : b = q
    · rw [z, upd_same]; exact fun z => nomatch z
    · rw [upd_ne z]; exact hb)
/-! what ends in a deck -/
def DeckEnd (c : Ct) (E : Ends) : Prop := ∀ (dk cc : Addr) (H' : Hp) (cells : List Int) (mixed : Int), dk ≠ cc → cells.length ≤ 64 → 0 ≤ mixed → mixed < 2147483629 → H' dk = some (deckO cc mixed 0) → H' cc = some (.lst (cells.map V.int)) → E.rt (.ref dk) H'
def RunD (I : Inf) (c : Ct) (ss : List Stmt) (ds : List SD) : Prop := ∀ X, Fits I X → ∀ σ G H E, S I c G H σ ds → DeckEnd c E → wSs X ss E σ H
theorem rund_cons {st : Stmt} {rest : List Stmt} {Mid : List SD → Prop} (h1 : RunS I c st ds { nx := Mid, rt := fun _ => False }) (h2 : ∀ ds', Mid ds' → RunD I c rest ds') : RunD I c (st :: rest) ds := fun X F σ G H E s k =>
  w_pss (pss_cons ps_w pss_w) (h1 X F σ G H { E with nx := wSs X rest E } s ⟨fun σ' G' H' ds' _ s' m => h2 ds' m X F σ' G' H' E s' k, fun _ _ _ _ _ _ z => z.elim, fun _ _ _ _ _ _ z => z.elim, fun _ _ _ _ _ _ z => z.elim, fun _ _ _ _ _ _ _ _ _ _ _ _ z => z.elim, fun _ _ _ _ _ _ _ _ _ _ _ _ _ _ _ _ _ _ _ _ z => z.elim⟩)
theorem rund_to {st : Stmt} {rest : List Stmt} {ds1 : List SD} (h1 : RunS I c st ds { nx := (· = ds1), rt := fun _ => False }) (h2 : RunD I c rest ds1) : RunD I c (st :: rest) ds := rund_cons h1 fun ds' e => by rw [e]; exact h2
theorem put3 {cc : Addr} {m : Int} : mergeK [] [(Sum.inr ("left" : Str), V.ref cc), (Sum.inr ("mixed" : Str), V.int m), (Sum.inr ("draws" : Str), V.int 0)] = [(Sum.inr ("left" : Str), V.ref cc), (Sum.inr ("mixed" : Str), V.int m), (Sum.inr ("draws" : Str), V.int 0)] := rfl
/-- return {'cells': .., 'mixed': .., 'draws': 0} -/
theorem rund_ret {e1 e2 e3 : Expr} {k1 k2 k3 : Pos} {j1 j2 j3} {p : Pos} {m : Int} (h1 : EvF I c e1 ds (fun l => ∃ cells : List Int, l = cells.map PyData.int ∧ cells.length ≤ 64)) (h2 : EvE I c e2 ds (· = .int m)) (h3 : EvE I c e3 ds (· = .int 0)) (hm0 : 0 ≤ m) (hm : m < 2147483629) :
    RunD I c [.Return (some (.Dict [some (.Constant (.str "left") j1 k1), some (.Constant (.str "mixed") j2 k2), some (.Constant (.str "draws") j3 k3)] [e1, e2, e3] p)) pos] ds := fun X F σ G H E s k => by
  refine w_pss (pss_one (ps_ret (pe_disp (pps_cons pe_str pe_w (pps_cons pe_str pe_w (pps_cons pe_str pe_w pps_nil))) rfl rfl (by simp) (by show 3 ≤ 15; decide)))) ?_
  intro q hq
  have s0 := s.aside (o := .dK []) hq
  refine h1 X F σ G _ s0 _ fun cp xs G1 H1 l g1 s1 np hg hnd hl hh r ⟨cells, el, hc⟩ => ?_
  subst el
  have ex : xs = cells.map V.int := RpA.ints.mp r
  subst ex
  have hqz : ¬ inDeck c.Z q := fun z => (s.deck.ne z).1 hq
  have hq1 : H1 q = some (.dK []) := g1.h _ _ upd_same hqz
  refine h2 X F σ G1 H1 s1 _ fun v G2 H2 d x2 s2 r2 p2 => h3 X F σ G2 H2 s2 _ fun v3 G3 H3 d3 x3 s3 r3 p3 => ?_
  subst p2; subst p3
  rw [r2.int', r3.int']
  have hq3 : H3 q = some (.dK []) := x3.h _ _ (x2.h _ _ hq1 hqz) hqz
  have hc3 : H3 cp = some (.lst (cells.map V.int)) := x3.h _ _ (x2.h _ _ hh hnd) hnd
  have hne : q ≠ cp := fun z => by rw [z, upd_same] at np; cases np
  show _ ∧ ∃ kvs, _
  refine ⟨hq3, [(Sum.inr ("left" : Str), V.ref cp), (Sum.inr ("mixed" : Str), V.int m), (Sum.inr ("draws" : Str), V.int 0)], rfl, by show 3 ≤ 15; decide, ?_⟩
  exact k q cp _ cells m hne hc hm0 hm (by rw [upd_same, put3]; rfl) (by rw [upd_ne hne.symm]; exact hc3)
end
end Dl


set_option Elab.async false
set_option maxRecDepth 100000
set_option linter.all false
set_option maxHeartbeats 1000000
/-! the sum of a tuple of ints; any -/
namespace Dl
open PySem PySem.Spec PyProof.Rows L2
theorem sum_tup {prog : Program} {w : World} {A : Around} {E : Value → Shared → Prop} {s : Shared} {l : Addr} {its : List Value} {ns : List Int} {Q : Value → Shared → Prop} (hh : A.handled = none) (ht : s.heap.IsTuple l its.toArray) (hi : IntsAre its ns)
    (h : ∀ h' tk t', (∀ b o, s.heap.get? b = some o → h'.get? b = some o) → Q (.int ns.sum t') { s with heap := h', toks := tk }) : wpAny (model prog w) A (call (.builtin "sum") [.ref l]) Q E s := by
  obtain ⟨xs, e⟩ := hi.allInts.items
  have hn : numsOf (intItems xs).toList = ns := by rw [← e]; exact hi.numsOf
  rw [nums_intItems] at hn
  rw [e] at ht
  have hlt : l < s.heap.objs.size := by obtain ⟨_, e, _⟩ := ht; exact Heap.lt_size e
  refine call_sum_walkG (iter_tuple ht ?_)
  refine ⟨_, _, _, _, _, _, numAt xs, rfl, Walks.tuple (A := A.in1) hh s.heap.objs.size l (Nat.ne_of_lt hlt) (intItems xs), ⟨⟨_, Heap.get?_push_size _ rfl, rfl, rfl⟩, ?_⟩, fun b hb => ?_, (fun _ _ => intItems_at), fun h' tk t' hk => ?_⟩
  · obtain ⟨o, h1, h2⟩ := ht
    exact ⟨o, Heap.get?_push_of_some _ h1, h2⟩
  · show b < (s.heap.push _).objs.size
    rw [Heap.size_push]
    rcases List.mem_cons.mp hb with rfl | hb
    · exact Nat.lt_succ_self _
    · rcases List.mem_cons.mp hb with rfl | hb
      · exact Nat.lt_succ_of_lt hlt
      · cases hb
  · have := h h' tk t' (fun b o eo => hk b o (fun hm => by
      rcases List.mem_cons.mp hm with e1 | hm
      · exact absurd (e1 ▸ Heap.lt_size eo) (Nat.lt_irrefl _)
      · cases hm) (Heap.get?_push_of_some _ eo))
    have e2 : preSum (numAt xs) (intItems xs).size = ns.sum := by
      rw [preSum_eq, List.take_of_length_le (by simp [intItems]), hn]
    rw [e2]; exact this
section
variable {X : Cx}
def rSumT (K : PySem.W.Frag) : List V → Hp → VK → Prop := fun vs H Q => ∃ (a : Addr) (ns : List Int), vs = [V.ref a] ∧ SqT K H a (ns.map V.int) ∧ Q (.int ns.sum) H
theorem cr_sumT (hc : X.calm = true) : CallR X (.builtin "sum") (rSumT X.K) := by
  intro pins s σ H vs us Q I r h
  obtain ⟨a, ns, rfl, hs, q⟩ := h
  obtain ⟨its, rv, ht, _⟩ := I.tuple hs
  rw [Vals.ref1 r]
  exact sum_tup (I.ok.hd hc) ht rv.ints fun h' tk t' hk => ⟨.int _, H, I.kept hk, ⟨_, rfl⟩, q⟩
end
section
variable {I : Inf} {c : Ct} {ds : List SD} {e : Expr} {pos p : Pos}
theorem ev_sumT {ns : List Int} (hg : I.sc.names.lookup ("sum" : Str) = some .globalImplicit) (hm : I.mg "sum" = none) (ha : EvE I c e ds (· = .tuple (ns.map PyData.int))) (hs : ∀ X, Fits I X → starEach [e] X.env = (false, eval e X.env) :: starEach [] X.env := by intros; rfl) :
    EvE I c (.Call (.Name "sum" p) [e] [] pos) ds (· = .int ns.sum) :=
  ev_callB (id := "sum") (r := rSumT I.K) (fun X F => by have := cr_sumT (X := X) F.calm; rw [F.K] at this; exact this) hg hm (by decide +kernel) (ea_1 ha hs) (he := hs) (fun l ⟨d, hl, hd⟩ σ G H vs s r Q k => by
    subst hl; subst hd
    obtain ⟨v, rfl, r1⟩ := rpa1 r
    obtain ⟨a, xs, rfl, h1, h2, h3⟩ := r1.tup'
    rw [RpA.ints] at h3; subst h3
    exact ⟨a, ns, rfl, ex_t s.ex h1, k.now s .int rfl⟩)
theorem ev_any {bs : List Bool} (hg : I.sc.names.lookup ("any" : Str) = some .globalImplicit) (hm : I.mg "any" = none) (ha : EvE I c e ds (· = .list (bs.map PyData.bool))) (hs : ∀ X, Fits I X → starEach [e] X.env = (false, eval e X.env) :: starEach [] X.env := by intros; rfl) :
    EvE I c (.Call (.Name "any" p) [e] [] pos) ds (· = .bool (bs.any id)) :=
  ev_callB (id := "any") (r := rAny I.K) (fun X F => by have := cr_any (X := X) F.calm; rw [F.K] at this; exact this) hg hm (by decide +kernel) (ea_1 ha hs) (he := hs) (fun l ⟨d, hl, hd⟩ σ G H vs s r Q k => by
    subst hl; subst hd
    obtain ⟨v, rfl, r1⟩ := rpa1 r
    obtain ⟨a, xs, rfl, h1, h2, h3⟩ := r1.lst'
    rw [RpA.bools] at h3; subst h3
    exact ⟨a, bs, rfl, SqL.of (s.ex _ _ h1), k.now s .bl rfl⟩)
theorem ev_as {x y : D} (h : EvE I c e ds (· = x)) (h' : x = y) : EvE I c e ds (· = y) := by rw [← h']; exact h
theorem et_as {x y : Bool} (h : EvT I c e ds (· = x)) (h' : x = y) : EvT I c e ds (· = y) := by rw [← h']; exact h
theorem ev_to {P Q : D → Prop} (h : EvE I c e ds P) (h' : ∀ d, P d → Q d) : EvE I c e ds Q := h.imp h'
theorem ev_maxL {ns : List Int} (hg : I.sc.names.lookup ("max" : Str) = some .globalImplicit) (hm : I.mg "max" = none) (ha : EvE I c e ds (· = .list (ns.map PyData.int))) (hne : 0 < ns.length) (hs : ∀ X, Fits I X → starEach [e] X.env = (false, eval e X.env) :: starEach [] X.env := by intros; rfl) :
    EvE I c (.Call (.Name "max" p) [e] [] pos) ds (IsI (fun m => m ∈ ns ∧ ∀ y ∈ ns, y ≤ m)) :=
  ev_callB (id := "max") (r := rMax I.K) (fun X F => by have := cr_max (X := X) F.calm; rw [F.K] at this; exact this) hg hm (by decide +kernel) (ea_1 ha hs) (he := hs) (fun l ⟨d, hl, hd⟩ σ G H vs s r Q k => by
    subst hl; subst hd
    obtain ⟨v, rfl, r1⟩ := rpa1 r
    obtain ⟨a, xs, rfl, h1, h2, h3⟩ := r1.lst'
    rw [RpA.ints] at h3; subst h3
    exact ⟨a, ns, rfl, SqL.of (s.ex _ _ h1), hne, fun m g1 g2 => k.now s .int ⟨m, rfl, g1, g2⟩⟩)
theorem ew_andP {e b : Expr} {rest : List Expr} {x : Bool} {PT : Bool → Prop} (h1 : EvT I c e ds (· = x)) (h2 : x = true → EvW I c (.BoolOp .And (b :: rest) pos) ds PT) (h0 : x = false → PT false) : EvW I c (.BoolOp .And (e :: b :: rest) pos) ds PT :=
  fun X F σ G H s Q k => w_pw (pw_and pt_w pw_w) (h1 X F σ G H s _ fun b' G1 H1 x1 s1 p1 => by
    cases b' with
    | true => exact iteT (h2 p1.symm X F σ G1 H1 s1 _ fun b2 G2 H2 x2 s2 p2 => k b2 G2 H2 (x1.trans x2) s2 p2)
    | false => exact iteF (k false G1 H1 x1 s1 (h0 p1.symm)))
end
end Dl


set_option Elab.async false
set_option maxRecDepth 100000
set_option linter.all false
set_option maxHeartbeats 1000000
/-! the law itself, called by none but the claim's caller: nothing is under way of being written out then -/
namespace Dl
open PySem PySem.Spec PyProof.Rows L2
section
variable {P : Program} {w : World} {K : Frag} {mg mb : Str → Option Value} {st : Stmt} {fa a : Addr} {fd : FuncData} {N : List Str} {x qual : Str} {k : Nat} {s₁ : Shared} {vs : List Value} {ns : List Int}
/-- a heap less the script's list: its namespaces stand -/
theorem hid_ns {h : Heap} {H : Hp} {b : Addr} {m : Str → Option Value} (c : ∀ d, H d ≠ none → d = a) (hs : h.get? a = some { cls := .type "list", data := .seq vs.toArray }) (n : h.Ns b m) : (hidT h H).Ns b m := by
  obtain ⟨o, es, ep, g, hd, r⟩ := n
  refine ⟨o, es, ep, hidT_get g ?_, hd, r⟩
  by_cases q : H b = none
  · exact q
  · have z := c b q
    rw [z, hs] at g
    cases g
    cases hd
/-- what a call of the law at the caller's place is to come to -/
abbrev TopRuns (P : Program) (w : World) (K : Frag) (mg : Str → Option Value) (fa a : Addr) (ns : List Int) : Prop :=
  ∀ (base : Heap) (s : Shared) (H : Hp), Env0 P w K mg base callerA [] s H → SqL K H a (ns.map V.int) → codeAny (model P w) callerA (.call (.ref fa) ⟨[.ref a], []⟩) (CR CX0 [] P w H s (fun v _ => v = .bl true) E0) s
theorem top_once (KX : K.In s₁.heap) (n1 : s₁.heap.Ns mainGlobals mg) (n2 : s₁.heap.Ns builtinsNs mb) (hb : ∀ x : Str, x ≠ "__name__" → mb x = bootBuiltins x) (lim : s₁.heap.NoLimit) (hg : s₁.gens = #[])
    (hs : s₁.heap.get? a = some { cls := .type "list", data := .seq vs.toArray }) (F : TopRuns P w K mg fa a ns) {H : Hp} (only : Only H) (sq : SqL K H a (ns.map V.int)) (ok : HOk P w H s₁.heap) (c : ∀ d, H d ≠ none → d = a) (kn : H a ≠ none → K.lookup a = none) :
    codeAny (model P w) callerA (.call (.ref fa) ⟨[.ref a], []⟩) (fun r s' => r = .ok (.ret (.bool true)) ∧ OldK s₁.heap s'.heap ∧ s'.os = s₁.os ∧ AllBare s'.gens) s₁ := by
  have kin : K.In (hidT s₁.heap H) := by
    intro d o e
    refine hidT_get (KX d o e) ?_
    by_cases q : H d = none
    · exact q
    · have z := c d q
      subst z
      have := kn q
      rw [this] at e; cases e
  have lim2 : (hidT s₁.heap H).NoLimit := by
    obtain ⟨mc, g1, g2⟩ := lim
    exact ⟨mc, hid_ns c hs g1, g2⟩
  have env : Env0 P w K mg (hidT s₁.heap H) callerA [] s₁ H :=
    { frames := rfl, mod := ⟨kin, hid_ns c hs n1, ⟨mb, hid_ns c hs n2, hb⟩, lim2⟩, bs := fun d o e => of_hidT e, bsz := by rw [hidT_size]; exact Nat.le_refl _, funs := trivial, frf := fun d hd => absurd (show d ∈ ([] : List Addr) from hd) (by simp), hok := ok, bare := .of_eq hg }
  refine codeAny_mono (F _ s₁ H env sq) fun r s' hr => ?_
  match r, hr with
  | .error e, hr => exact (show False from hr).elim
  | .ok .next, hr => exact (show False from hr).elim
  | .ok .brk, hr => exact (show False from hr).elim
  | .ok .cont, hr => exact (show False from hr).elim
  | .ok (.ret u), hr =>
    obtain ⟨v, H', os, bare, un, ok', rv, q⟩ := hr
    have q2 : v = .bl true := q
    subst q2
    have q3 : u = Value.bool true := rv
    refine ⟨by rw [q3], OldK.of_keep fun d o e => ?_, os, bare⟩
    rcases only d with z | ⟨ob, xs, z⟩
    · exact un.keep d o e z (fun hm => absurd (show d ∈ ([] : List Addr) from hm) (by simp)) (by simp)
    · have g1 := (ok d _ z).1
      rw [e] at g1
      have g2 := (ok' d _ (un.frzs d ob _ z)).1
      cases g1
      exact g2
/-- the script's list either is the module's own or is known from now on -/
theorem top_call (KX : K.In s₁.heap) (n1 : s₁.heap.Ns mainGlobals mg) (n2 : s₁.heap.Ns builtinsNs mb) (hb : ∀ x : Str, x ≠ "__name__" → mb x = bootBuiltins x) (lim : s₁.heap.NoLimit) (hg : s₁.gens = #[])
    (hs : s₁.heap.get? a = some { cls := .type "list", data := .seq vs.toArray }) (hi : IntsAre vs ns) (hl : ns.length ≤ sizeLine) (F : TopRuns P w K mg fa a ns) :
    codeAny (model P w) callerA (.call (.ref fa) ⟨[.ref a], []⟩) (fun r s' => r = .ok (.ret (.bool true)) ∧ OldK s₁.heap s'.heap ∧ s'.os = s₁.os ∧ AllBare s'.gens) s₁ := by
  have rv := vals_ints hi
  have len := hi.length
  rcases e : K.lookup a with _ | o
  · let H : Hp := fun d => if d = a then some (.frz { cls := .type "list", data := .seq vs.toArray } (.lst (ns.map V.int))) else none
    have at_a : H a = some (.frz { cls := .type "list", data := .seq vs.toArray } (.lst (ns.map V.int))) := if_pos rfl
    have off : ∀ d, d ≠ a → H d = none := fun d hd => if_neg hd
    refine top_once KX n1 n2 hb lim hg hs F (H := H) (fun d => ?_) (.inl (.inr ⟨_, at_a⟩)) (fun d u z => ?_) (fun d z => ?_) (fun _ => e)
    · by_cases q : d = a
      · subst q; exact .inr ⟨_, _, at_a⟩
      · exact .inl (off d q)
    · by_cases q : d = a
      · subst q
        rw [at_a] at z; cases z
        exact ⟨hs, by rw [List.length_map]; exact hl, vs, _, rv, hs⟩
      · rw [off d q] at z; cases z
    · by_cases q : d = a
      · exact q
      · exact absurd (off d q) z
  · have g := KX a o e
    rw [hs] at g
    cases g
    exact top_once KX n1 n2 hb lim hg hs F (H := fun _ => none) (fun _ => .inl rfl) (.inr ⟨_, vs.toArray, _, e, rfl, rfl, rfl, by rw [List.size_toArray, len]; exact hl, by simpa using rv⟩) (fun d u z => nomatch z) (fun d z => absurd rfl z) (fun z => absurd rfl z)
/-- a def without defaults that the caller calls: its body, with nothing under way -/
theorem fn_top (F : Fun K x qual st fa fd) (S : FnScope N ["_law_script"] (defScope st)) (hr : Room (k + 1) callerA) (hbind : ∀ (s : Shared) (u : Value), BindsTo s fd ⟨[u], []⟩ [("_law_script", u)])
    (body : ∀ (base : Heap) (cdv : Value) (s : Shared) (H : Hp), Room k (callerA.deeper (envOfC qual (defScope st) s.heap.objs.size fa cdv)) → SqL K H a (ns.map V.int) →
      ∃ t, PSs (cxOf CX0 P w K mg base N qual (defScope st) fa cdv callerA [] s H E0).nox (defBody st) t ∧ t { nx := fun _ _ => False, rt := fun v _ => v = .bl true } (start N [.ref a]) H) : TopRuns P w K mg fa a ns := by
  intro base s H env sq
  obtain ⟨oc, od, kV, doc, pm, an, cdv, ct, osl, rfl, lk, hcd⟩ := F.ex
  have kin : K.In s.heap := env.mod.kin.keeps fun d o e => (env.bs d o e).1
  have lim : s.heap.NoLimit := env.mod.nolimit.keeps fun d o e => (env.bs d o e).1
  have lp : (([("_law_script", Value.ref a)] : List (Str × Value))) = (["_law_script"] : List Str).zip [Value.ref a] := rfl
  have kinds : ∀ y ∈ (["_law_script"] : List Str).zip [Value.ref a], (defScope st).names.lookup y.1 = some .local ∨ ((defScope st).names.lookup y.1 = some .cell ∧ ((cellsFrom (s.heap.objs.size + 1) (defScope st).names []).lookup y.1).isSome = true) := by
    rintro ⟨nm, v⟩ hy
    rcases S.par nm (List.of_mem_zip hy).1 with q | q
    · exact .inl q
    · exact .inr ⟨q, PySem.W.cellsFrom_some _ _ _ (.inl q)⟩
  refine codeAny_call_function hr.depth (kin _ _ lk) rfl S.co S.gen rfl (PySem.W.codeRec_of kin hcd) (hbind s (.ref a) _ _ _ _ ?_)
  rw [lp]
  refine wpAny_newFunctionEnv_cells S.kind kinds fun en he s1 xi => ?_
  subst he
  refine ⟨lim.keeps xi.toInCall.keep, codeAny_func ?_⟩
  obtain ⟨t, ht, hq⟩ := body base cdv s H (hr.deeper _) sq
  have I : Inv (cxOf CX0 P w K mg base N qual (defScope st) fa cdv callerA [] s H E0) [] (start N [.ref a]) H s1 := inv_start S hr.hd env rfl (.cons rfl .nil) xi
  refine wpAny_mono (ht.nox.run [] s1 (start N [.ref a]) H _ I hq) (fun fl s' hs => ?_) fun e s' hs => hs
  cases fl with
  | ret u =>
    obtain ⟨v, σ', H', J, rv, q⟩ := hs
    exact ⟨v, H', J.os, J.bare, J.base, J.hok, rv, q⟩
  | next =>
    obtain ⟨_, _, _, q⟩ := hs
    exact q.elim
  | brk =>
    obtain ⟨_, _, _, q⟩ := hs
    exact q.elim
  | cont =>
    obtain ⟨_, _, _, q⟩ := hs
    exact q.elim
end
/-- the walk of a law whose def is looked at where it is called -/
theorem walk_top {l : PySem.W.OpenLaw} {q : Program} {loose : List Str} {XP : (Str → Option Value) → Heap → Prop} {YP : World → Heap → Prop} {d : DefRec} {K : Params → Frag} (hn : l.most = some 63) (hdf : d.params.defaults = [])
    (hY : ∀ (w : World) (h : Heap), YP w h → (K w.params).In h)
    (F : ∀ (w : World) (mg : Str → Option Value) (fa : Addr) (h : Heap), (K w.params).In h → h.Ns mainGlobals mg → mg d.name = some (.ref fa) → ∀ (a : Addr) (ns : List Int), ns.length ≤ 63 → TopRuns l.prog w (K w.params) mg fa a ns) :
    PySem.W.WalkO q loose XP YP l.row.toRowW d [] (fun f vs => PySem.call f vs) := by
  refine Att.attach_call hn hdf fun w s₀ s₁ mg mb fa o pm cd doc a vs ns G Y ho hd hcd hmg hobj hints hlen hg => ?_
  have kin := hY w _ Y
  exact top_call kin G.T.g G.T.b G.T.builtins G.T.nolimit hg hobj hints (Nat.le_trans hlen (by decide)) (F w mg fa _ kin G.T.g hmg a ns hlen)
end Dl


set_option Elab.async false
set_option maxRecDepth 100000
set_option linter.all false
set_option maxHeartbeats 1000000
/-! repr of data, where nothing is under way of being written out -/
namespace Dl
open PySem PySem.Spec PyProof.Rows L2
section
variable {X : Cx} {pins : List (Addr × Obj)} {σ : L2.St} {G H : Hp} {s : Shared}
mutual
theorem reads_of (J : Inv X pins σ H s) (e : Ex G H) : ∀ (d : D) {v : V} {u : Value}, Rp X.K G d v → RelV v u → ∃ as, Reads s.heap u d as
  | .none, v, u, h, r => by
    unfold Rp at h; subst h
    cases (show u = Value.none from r)
    exact ⟨_, .none⟩
  | .bool b, v, u, h, r => by
    unfold Rp at h; subst h
    cases (show u = Value.bool b from r)
    exact ⟨_, .bool b⟩
  | .int i, v, u, h, r => by
    unfold Rp at h; subst h
    obtain ⟨t, rfl⟩ := (show ∃ t, u = Value.int i t from r)
    exact ⟨_, .int i t⟩
  | .str x, v, u, h, r => by
    unfold Rp at h; subst h
    obtain ⟨t, rfl⟩ := (show ∃ t, u = Value.str x t from r)
    exact ⟨_, .str x t⟩
  | .list ds, v, u, h, r => by
    unfold Rp at h
    obtain ⟨a, xs, rfl, h1, _, h3⟩ := h
    cases (show u = Value.ref a from r)
    obtain ⟨its, rv, hl, _⟩ := J.list (SqL.of (e _ _ h1))
    obtain ⟨o, g1, g2, n, g3⟩ := hl.isList
    obtain ⟨as, ra⟩ := readsA_of J e ds h3 rv
    exact ⟨_, .list g1 g2 g3 ra⟩
  | .tuple ds, v, u, h, r => by
    unfold Rp at h
    obtain ⟨a, xs, rfl, h1, _, h3⟩ := h
    cases (show u = Value.ref a from r)
    obtain ⟨its, rv, ⟨o, g1, g2, n, g3⟩, _⟩ := J.tuple (ex_t e h1)
    obtain ⟨as, ra⟩ := readsA_of J e ds h3 rv
    exact ⟨_, .tuple g1 g2 g3 ra⟩
  | .dict _, _, _, h, _ => by unfold Rp at h; exact h.elim
theorem readsA_of (J : Inv X pins σ H s) (e : Ex G H) : ∀ (ds : List D) {vs : List V} {us : List Value}, RpA X.K G ds vs → Vals vs us → ∃ as, ReadsAll s.heap us ds as
  | [], _, us, h, r => by
    unfold RpA at h; subst h
    cases r
    exact ⟨_, .nil⟩
  | d :: ds, _, us, h, r => by
    obtain ⟨v, ws, rfl, h1, h2⟩ := h.inv
    cases r with
    | cons r1 r2 =>
      obtain ⟨as, a1⟩ := reads_of J e d h1 r1
      obtain ⟨bs, a2⟩ := readsA_of J e ds h2 r2
      exact ⟨_, .cons a1 a2⟩
end
/-- data that can be written out -/
structure Shows (l : List D) : Prop where
  ok : (PyData.tuple l).showable = true
  nd : (PyData.tuple l).hasDict = false
  dp : (PyData.tuple l).depth ≤ 20
  sz : (PyData.tuple l).shown.length ≤ sizeLine
def rReprT (K : Frag) : List V → Hp → VK → Prop := fun xs H Q => ∃ (l : List D) (v : V) (G : Hp), xs = [v] ∧ Ex G H ∧ Rp K G (.tuple l) v ∧ Shows l ∧ Q (.str (PyData.tuple l).shown) H
theorem cr_reprT (hg : X.A.guards = some []) (hu : X.A.units + 60 < cLine) : CallR X (.builtin "repr") (rReprT X.K) := by
  intro pins s σ H xs us Q J r h
  obtain ⟨l, v, G, rfl, ex, hv, sh, q⟩ := h
  obtain ⟨u, rfl, e⟩ := vals1 r
  obtain ⟨as, rd⟩ := reads_of J ex _ hv e
  have hv' := hv
  unfold Rp at hv'
  obtain ⟨a, xs, rfl, _⟩ := hv'
  cases (show u = Value.ref a from e)
  have hd := sh.dp
  exact repr_of_reads' rd sh.ok (PyData.noDict_hsm sh.nd) hg (by omega) (fun _ _ z => z) (fun h' u tk hk => ⟨.str _, H, J.kept hk, ⟨u, rfl⟩, q⟩) sh.sz
end
section
variable {I : Inf} {c : Ct} {ds : List SD} {e : Expr} {pos p : Pos}
theorem ev_reprT {l : List D} (hgd : I.gd = true) (hk : 16 * I.k + 200 ≥ 60) (hg : I.sc.names.lookup ("repr" : Str) = some .globalImplicit) (hm : I.mg "repr" = none) (sh : Shows l) (ha : EvE I c e ds (· = .tuple l)) (hs : ∀ X, Fits I X → starEach [e] X.env = (false, eval e X.env) :: starEach [] X.env := by intros; rfl) :
    EvE I c (.Call (.Name "repr" p) [e] [] pos) ds (· = .str (PyData.tuple l).shown) :=
  ev_callB (id := "repr") (r := rReprT I.K) (fun X F => by have := cr_reprT (X := X) (F.gd hgd) (by have := F.room.units; have := F.room.un; omega); rw [F.K] at this; exact this) hg hm (by decide +kernel) (ea_1 ha hs) (he := hs) (fun l' ⟨d, hl, hd⟩ σ G H vs s r Q k => by
    subst hl; subst hd
    obtain ⟨v, rfl, r1⟩ := rpa1 r
    exact ⟨l, v, G, rfl, s.ex, r1, sh, k.now s .str rfl⟩)
end
end Dl


set_option Elab.async false
set_option maxRecDepth 100000
set_option linter.all false
set_option maxHeartbeats 1000000
/-! rows of not too large ints are written out -/
namespace Dl
open PySem PySem.Spec PyProof.Rows L2
def S60 (r : List Int) : Prop := ∀ x ∈ r, x.natAbs < 10 ^ 60
theorem log_60 {i : Int} (h : i.natAbs < 10 ^ 60) : i.natAbs.log2 < 200 := by
  by_cases z : i.natAbs = 0
  · rw [z]; decide
  · rw [Nat.log2_lt z]; exact Nat.lt_of_lt_of_le h (by decide)
theorem len_60 {i : Int} (h : i.natAbs < 10 ^ 60) : (PyData.shown (.int i)).length ≤ 64 := by
  have h1 := int_text_length_le10 (k := 60) (by decide) h
  have e : (PyData.shown (.int i)).length = (Str.ofString (toString i)).length := rfl
  rw [e, PySem.ofString_length]; omega
theorem row_facts : ∀ {r : List Int}, S60 r → PyData.leavesShortAll 64 (r.map PyData.int) = true ∧ PyData.weightAll (r.map PyData.int) ≤ 202 * r.length ∧ PyData.showableAll (r.map PyData.int) = true ∧ PyData.hasDictAll (r.map PyData.int) = false ∧ PyData.depthAll (r.map PyData.int) = 0
  | [], _ => by simp [PyData.leavesShortAll, PyData.weightAll, PyData.showableAll, PyData.hasDictAll, PyData.depthAll]
  | x :: r, h => by
    have hx := h x (by simp)
    obtain ⟨h1, h2, h3, h4, h5⟩ := row_facts (r := r) (fun y hy => h y (by simp [hy]))
    have hl := log_60 hx
    have hw : PyData.weight (.int x) ≤ 200 := by simp only [PyData.weight]; split <;> omega
    refine ⟨?_, ?_, ?_, ?_, ?_⟩
    · simp only [List.map_cons, PyData.leavesShortAll, PyData.leavesShort, h1, Bool.and_true, decide_eq_true_eq]; exact len_60 hx
    · simp only [List.map_cons, PyData.weightAll, List.length_cons]; omega
    · simp only [List.map_cons, PyData.showableAll, PyData.showable, h3, Bool.and_true, decide_eq_true_eq]; omega
    · simp only [List.map_cons, PyData.hasDictAll, PyData.hasDict, h4, Bool.or_false]
    · simp only [List.map_cons, PyData.depthAll, PyData.depth, h5]; rfl
/-- what a paper is made of: words, ints, rows of ints -/
def PartOk : D → Prop
  | .str x => x.length ≤ 20 ∧ (x.cps.toList.all fun c => decide (c < 16 ^ 8)) = true ∧ x.cps.size ≤ 20
  | .int i => i.natAbs < 10 ^ 60
  | .tuple l => ∃ r : List Int, l = r.map PyData.int ∧ S60 r ∧ r.length ≤ 100
  | _ => False
theorem part_facts : ∀ {d : D}, PartOk d → PyData.leavesShort 64 d = true ∧ PyData.weight d ≤ 20200 ∧ PyData.showable d = true ∧ PyData.hasDict d = false ∧ PyData.depth d ≤ 2
  | .str x, h => by
    obtain ⟨h1, h2, h3⟩ := h
    exact ⟨by simpa [PyData.leavesShort] using h2, by simp only [PyData.weight]; omega, rfl, rfl, by simp [PyData.depth]⟩
  | .int i, h => by
    have hl := log_60 h
    refine ⟨by simp only [PyData.leavesShort, decide_eq_true_eq]; exact len_60 h, ?_, by simp only [PyData.showable, decide_eq_true_eq]; omega, rfl, by simp [PyData.depth]⟩
    simp only [PyData.weight]; split <;> omega
  | .tuple l, h => by
    obtain ⟨r, rfl, h1, h2⟩ := h
    obtain ⟨g1, g2, g3, g4, g5⟩ := row_facts h1
    exact ⟨by simpa [PyData.leavesShort] using g1, by simp only [PyData.weight]; omega, by simpa [PyData.showable] using g3, by simpa [PyData.hasDict] using g4, by simp only [PyData.depth, g5]; omega⟩
  | .none, h => by cases h
  | .bool _, h => by cases h
  | .list _, h => by cases h
  | .dict _, h => by cases h
theorem parts_facts : ∀ {l : List D}, (∀ d ∈ l, PartOk d) → PyData.leavesShortAll 64 l = true ∧ PyData.weightAll l ≤ 20201 * l.length ∧ PyData.showableAll l = true ∧ PyData.hasDictAll l = false ∧ PyData.depthAll l ≤ 2
  | [], _ => by simp [PyData.leavesShortAll, PyData.weightAll, PyData.showableAll, PyData.hasDictAll, PyData.depthAll]
  | d :: l, h => by
    obtain ⟨g1, g2, g3, g4, g5⟩ := part_facts (h d (by simp))
    obtain ⟨h1, h2, h3, h4, h5⟩ := parts_facts (l := l) (fun y hy => h y (by simp [hy]))
    refine ⟨by simp only [PyData.leavesShortAll, g1, h1, Bool.and_true], by simp only [PyData.weightAll, List.length_cons]; omega, by simp only [PyData.showableAll, g3, h3, Bool.and_true], by simp only [PyData.hasDictAll, g4, h4, Bool.or_false], by simp only [PyData.depthAll]; omega⟩
theorem shows_of {l : List D} (hl : l.length ≤ 6) (h : ∀ d ∈ l, PartOk d) : Shows l := by
  obtain ⟨g1, g2, g3, g4, g5⟩ := parts_facts h
  refine ⟨by simpa [PyData.showable] using g3, by simpa [PyData.hasDict] using g4, by simp only [PyData.depth]; omega, ?_⟩
  have h1 := PyData.shown_le 64 (by decide) (.tuple l) (by simpa [PyData.leavesShort] using g1)
  have h2 : (PyData.tuple l).weight ≤ 20201 * 6 := by simp only [PyData.weight]; omega
  rw [sizeLine_eq]; omega
end Dl


set_option Elab.async false
set_option maxRecDepth 100000
set_option linter.all false
set_option maxHeartbeats 2000000
/-! a call by three keywords alone, and by five -/
namespace Dl
open PySem PySem.Spec PyProof.Rows L2
/-- a def with its three parameters by name, the last one first -/
structure FnK3 (I : Inf) (x k1 k2 k3 : Str) (sp : Sp) : Prop where
  ok : ∃ (f : Addr) (fd : FuncData) (ps : List Str) (g : List Value → List Value → List Value) (gV : List V → List V → List V), I.mg x = some (.ref f) ∧ PySem.W.keepIn I.K (.ref f) = true ∧ KBinds I.K fd ps [k1, k2, k3] g gV ∧ (∀ a b c, gV [] [a, b, c] = [c, b, a]) ∧ FnOk I.prog I.w I.K I.mg I.base CX0 I.k f fd ps sp
section
variable {I : Inf} {c : Ct} {ds : List SD} {e1 e2 e3 e4 e5 : Expr} {P : D → Prop} {pos p q1 q2 q3 q4 q5 : Pos} {d1 d2 d3 d4 d5 : D}
theorem ev_callK3 {x k1 k2 k3 : Str} {Pc : List AD → (D → Prop) → Prop} {R : D → Prop} (hf : FnK3 I x k1 k2 k3 (spD I.K Pc)) (hg : I.sc.names.lookup x = some .globalImplicit)
    (h1 : EvE I c e1 ds (· = d1)) (h2 : EvE I c e2 ds (· = d2)) (h3 : EvE I c e3 ds (· = d3)) (hc : Pc [.dat d3, .dat d2, .dat d1] R) (hp : ∀ d, R d → P d)
    (hall : ∀ X, Fits I X → (backToKw pos (keywordEach [⟨some k1, e1, q1⟩, ⟨some k2, e2, q2⟩, ⟨some k3, e3, q3⟩] X.env)).all (·.1.isSome) = true := by intros; rfl)
    (hks : ∀ X, Fits I X → (backToKw pos (keywordEach [⟨some k1, e1, q1⟩, ⟨some k2, e2, q2⟩, ⟨some k3, e3, q3⟩] X.env)).filterMap (·.1) = [k1, k2, k3] := by intros; rfl)
    (hdb : (x == ("__debug__" : Str)) = false := by decide)
    (hpl : ∀ X, Fits I X → ((backTo pos (starEach [] X.env)).any (·.1) || (backToKw pos (keywordEach [⟨some k1, e1, q1⟩, ⟨some k2, e2, q2⟩, ⟨some k3, e3, q3⟩] X.env)).any (·.1.isNone)) = false := by intros; rfl) :
    EvE I c (.Call (.Name x p) [] [⟨some k1, e1, q1⟩, ⟨some k2, e2, q2⟩, ⟨some k3, e3, q3⟩] pos) ds P := fun X F σ G H s Q k => by
  obtain ⟨f, fd, ps, g, gV, hm, hk, hb, hgV, G0⟩ := hf.ok
  have G1 : FnOk X.prog X.w X.K X.mg X.base CX0 I.k f fd ps (spD I.K Pc) := by rw [F.prog, F.w, F.K, F.mg, F.base]; exact G0
  refine w_pe (pe_callK0 G1 F.room (by show X.env.scope.names.lookup x = _; rw [F.sc]; exact hg) (by rw [F.mg]; exact hm) (by rw [F.K]; exact hk) (by rw [F.K]; exact hb) pass0 (pk_cons pe_w (pk_cons pe_w (pk_cons pe_w pk_nil))) (hall X F) (hks X F) hdb (hpl X F)) ?_
  refine h1 X F σ G H s _ fun v1 G1 H1 y1 x1 s1 r1 p1 => h2 X F σ G1 H1 s1 _ fun v2 G2 H2 y2 x2 s2 r2 p2 => h3 X F σ G2 H2 s2 _ fun v3 G3 H3 y3 x3 s3 r3 p3 => ?_
  subst p1; subst p2; subst p3
  show spD I.K Pc (gV [] [v1, v2, v3]) H3 Q E0
  rw [hgV]
  refine ⟨{ deck := c.Z.deck }, G3, [.dat y3, .dat y2, .dat y1], R, rfl, s3.ex, s3.deck, ⟨v3, _, rfl, r3, v2, _, rfl, Rp.mono x3.g _ r2, v1, _, rfl, Rp.mono (x2.trans x3).g _ r1, rfl⟩, hc, fun v G' H' d t r q => ?_⟩
  obtain ⟨s5, gr⟩ := State.after s3 t rfl (.inr rfl)
  exact k v G' H' d (((x1.trans x2).trans x3).trans gr) s5 r (hp d q)
/-- a def with its five parameters by name, the last one first -/
structure FnK5 (I : Inf) (x k1 k2 k3 k4 k5 : Str) (sp : Sp) : Prop where
  ok : ∃ (f : Addr) (fd : FuncData) (ps : List Str) (g : List Value → List Value → List Value) (gV : List V → List V → List V), I.mg x = some (.ref f) ∧ PySem.W.keepIn I.K (.ref f) = true ∧ KBinds I.K fd ps [k1, k2, k3, k4, k5] g gV ∧ (∀ a b c d e, gV [] [a, b, c, d, e] = [e, d, c, b, a]) ∧ FnOk I.prog I.w I.K I.mg I.base CX0 I.k f fd ps sp
theorem ev_callK5 {x k1 k2 k3 k4 k5 : Str} {Pc : List AD → (D → Prop) → Prop} {R : D → Prop} (hf : FnK5 I x k1 k2 k3 k4 k5 (spD I.K Pc)) (hg : I.sc.names.lookup x = some .globalImplicit)
    (h1 : EvE I c e1 ds (· = d1)) (h2 : EvE I c e2 ds (· = d2)) (h3 : EvE I c e3 ds (· = d3)) (h4 : EvE I c e4 ds (· = d4)) (h5 : EvE I c e5 ds (· = d5)) (hc : Pc [.dat d5, .dat d4, .dat d3, .dat d2, .dat d1] R) (hp : ∀ d, R d → P d)
    (hall : ∀ X, Fits I X → (backToKw pos (keywordEach [⟨some k1, e1, q1⟩, ⟨some k2, e2, q2⟩, ⟨some k3, e3, q3⟩, ⟨some k4, e4, q4⟩, ⟨some k5, e5, q5⟩] X.env)).all (·.1.isSome) = true := by intros; rfl)
    (hks : ∀ X, Fits I X → (backToKw pos (keywordEach [⟨some k1, e1, q1⟩, ⟨some k2, e2, q2⟩, ⟨some k3, e3, q3⟩, ⟨some k4, e4, q4⟩, ⟨some k5, e5, q5⟩] X.env)).filterMap (·.1) = [k1, k2, k3, k4, k5] := by intros; rfl)
    (hdb : (x == ("__debug__" : Str)) = false := by decide)
    (hpl : ∀ X, Fits I X → ((backTo pos (starEach [] X.env)).any (·.1) || (backToKw pos (keywordEach [⟨some k1, e1, q1⟩, ⟨some k2, e2, q2⟩, ⟨some k3, e3, q3⟩, ⟨some k4, e4, q4⟩, ⟨some k5, e5, q5⟩] X.env)).any (·.1.isNone)) = false := by intros; rfl) :
    EvE I c (.Call (.Name x p) [] [⟨some k1, e1, q1⟩, ⟨some k2, e2, q2⟩, ⟨some k3, e3, q3⟩, ⟨some k4, e4, q4⟩, ⟨some k5, e5, q5⟩] pos) ds P := fun X F σ G H s Q k => by
  obtain ⟨f, fd, ps, g, gV, hm, hk, hb, hgV, G0⟩ := hf.ok
  have G1 : FnOk X.prog X.w X.K X.mg X.base CX0 I.k f fd ps (spD I.K Pc) := by rw [F.prog, F.w, F.K, F.mg, F.base]; exact G0
  refine w_pe (pe_callK0 G1 F.room (by show X.env.scope.names.lookup x = _; rw [F.sc]; exact hg) (by rw [F.mg]; exact hm) (by rw [F.K]; exact hk) (by rw [F.K]; exact hb) pass0 (pk_cons pe_w (pk_cons pe_w (pk_cons pe_w (pk_cons pe_w (pk_cons pe_w pk_nil))))) (hall X F) (hks X F) hdb (hpl X F)) ?_
  refine h1 X F σ G H s _ fun v1 G1 H1 y1 x1 s1 r1 p1 => h2 X F σ G1 H1 s1 _ fun v2 G2 H2 y2 x2 s2 r2 p2 => h3 X F σ G2 H2 s2 _ fun v3 G3 H3 y3 x3 s3 r3 p3 => h4 X F σ G3 H3 s3 _ fun v4 G4 H4 y4 x4 s4 r4 p4 => h5 X F σ G4 H4 s4 _ fun v5 G5 H5 y5 x5 s5 r5 p5 => ?_
  subst p1; subst p2; subst p3; subst p4; subst p5
  show spD I.K Pc (gV [] [v1, v2, v3, v4, v5]) H5 Q E0
  rw [hgV]
  refine ⟨{ deck := c.Z.deck }, G5, [.dat y5, .dat y4, .dat y3, .dat y2, .dat y1], R, rfl, s5.ex, s5.deck, ⟨v5, _, rfl, r5, v4, _, rfl, Rp.mono x5.g _ r4, v3, _, rfl, Rp.mono (x4.trans x5).g _ r3, v2, _, rfl, Rp.mono ((x3.trans x4).trans x5).g _ r2, v1, _, rfl, Rp.mono (((x2.trans x3).trans x4).trans x5).g _ r1, rfl⟩, hc, fun v G' H' d t r q => ?_⟩
  obtain ⟨s6, gr⟩ := State.after s5 t rfl (.inr rfl)
  exact k v G' H' d ((((((x1.trans x2).trans x3).trans x4).trans x5)).trans gr) s6 r (hp d q)
end
section
variable {I : Inf} {c : Ct} {ds : List SD} {a b : Expr} {pos : Pos}
theorem ev_eqS {x y : Str} (ha : EvE I c a ds (· = .str x)) (hb : EvE I c b ds (· = .str y)) : EvE I c (.Compare a [.Eq] [b] pos) ds (· = .bool (decide (x = y))) :=
  ev_cmp (fun _ _ => op_eq) (nobehind _ (by decide) (by decide)) ha hb fun d e hi hj => by
    rw [hi, hj]; intro σ G H x' y' s rx ry Q k
    have ex : x' = .str x := by unfold Rp at rx; exact rx
    have ey : y' = .str y := by unfold Rp at ry; exact ry
    rw [ex, ey]
    refine ⟨rfl, k.now s .bl ?_⟩
    congr 1; exact decide_eq_decide.mpr ⟨fun h => by injection h, fun h => by rw [h]⟩
end
end Dl


set_option Elab.async false
set_option maxRecDepth 100000
set_option linter.all false
set_option maxHeartbeats 1000000
/-! a tuple of four names as a target -/
namespace Dl
open PySem PySem.Spec PyProof.Rows L2
theorem tg_four {I : Inf} {i j m l : Nat} {x y z t : Str} {p1 p2 p3 p4 p : Pos} {kk : Nat} (hx : Sto I i x) (hy : Sto I j y) (hz : Sto I m z) (ht : Sto I l t) : TgE I (.Tuple [.Name x p1, .Name y p2, .Name z p3, .Name t p4] kk p) (fun d as => ∃ d1 d2 d3 d4, d = .tuple [d1, d2, d3, d4] ∧ as = [(i, d1), (j, d2), (m, d3), (l, d4)]) :=
  ⟨gTup I.K 4 (gCons (gName i) (gCons (gName j) (gCons (gName m) (gCons (gName l) gNil)))), fun X F => F.K ▸ pg_tup F.calm (pgs_cons (pg_name (i := i) (by rw [F.N]; exact F.nd) (by rw [F.N]; exact hx.at_) (by rw [F.sc]; exact hx.loc) (hx.fn F)) (pgs_cons (pg_name (i := j) (by rw [F.N]; exact F.nd) (by rw [F.N]; exact hy.at_) (by rw [F.sc]; exact hy.loc) (hy.fn F)) (pgs_cons (pg_name (i := m) (by rw [F.N]; exact F.nd) (by rw [F.N]; exact hz.at_) (by rw [F.sc]; exact hz.loc) (hz.fn F)) (pgs_cons (pg_name (i := l) (by rw [F.N]; exact F.nd) (by rw [F.N]; exact ht.at_) (by rw [F.sc]; exact ht.loc) (ht.fn F)) pgs_nil)))),
    fun c σ G H ds v d as s r ha Q k => by
    obtain ⟨d1, d2, d3, d4, rfl, rfl⟩ := ha
    obtain ⟨a, xs, rfl, hq, _, ra⟩ := r.tup'
    obtain ⟨v1, ws, rfl, r1, ra2⟩ := ra.inv
    obtain ⟨v2, ws2, rfl, r2, ra3⟩ := ra2.inv
    obtain ⟨v3, v4, rfl, r3, r4⟩ := rpa2 ra3
    have s1 := State.set s (i := i) (sd := .dat d1) rfl ⟨v1, rfl, r1⟩
    have s2 := State.set s1 (i := j) (sd := .dat d2) rfl ⟨v2, rfl, r2⟩
    have s3 := State.set s2 (i := m) (sd := .dat d3) rfl ⟨v3, rfl, r3⟩
    have s4 := State.set s3 (i := l) (sd := .dat d4) rfl ⟨v4, rfl, r4⟩
    refine ⟨a, [v1, v2, v3, v4], rfl, ex_t s.ex hq, rfl, v1, [v2, v3, v4], rfl, v2, [v3, v4], rfl, v3, [v4], rfl, v4, [], rfl, rfl, ?_⟩
    exact k _ s4 (fun vs hv => (wipe_set (hv (l, d4) (by simp))).trans ((wipe_set (hv (m, d3) (by simp))).trans ((wipe_set (hv (j, d2) (by simp))).trans (wipe_set (hv (i, d1) (by simp)))))) (fun p h => h.set.set.set.set)⟩
end Dl


set_option Elab.async false
set_option maxRecDepth 100000
set_option linter.all false
set_option maxHeartbeats 1000000
/-! list.extend by a tuple; range of two -/
namespace PySem.AutoSeq1
theorem list_extend_list_tupleX (l : Addr) (items : Array Value) (n : Nat) (b : Addr) (items2 : Array Value) (n2 : Nat) (di : Option Addr) (sl : Array (Option Value)) (hs0 : ¬(!items.isEmpty && Builtin.List.listTooLong (items.size + items2.size)) = true) (hs1 : items.size ≤ sizeLine) (hs2 : items.size + items2.size ≤ sizeLine + 1 := by seq_fits) :
    Meets (Builtin.«list.extend» ⟨[.ref l, .ref b], []⟩) (fun _ R s => s.heap.get? l = some { cls := .type "list", dict := none, data := .seq items n, slots := #[] } ∧ s.heap.get? b = some { cls := .type "tuple", dict := di, data := .seq items2 n2, slots := sl } ∧ R (.ok (.ret Value.none)) { s with heap := s.heap.update l (Obj.mapSeq fun x => x ++ items2), toks := s.toks }) :=
  .of_wp fun prog w A R s h => by
    obtain ⟨hp, g, d, tk, os⟩ := s; obtain ⟨hl, hb, h⟩ := h; have f1 := idx_int; have f2 := sub_tuple_tuple; have f3 := sub_list_list; have f4 := sub_tuple_list; have f5 := sub_list_tuple;
    have hz' : (items ++ items2).size ≤ sizeLine + 1 := by rw [Array.size_append]; exact hs2
    wp_walk using (wpAny_updateSeq hl rfl (hz := hs1) (_hz' := hz')), wpAny_loadPart' hl, wpAny_loadPart' hb; exact ⟨_, rfl, h⟩
end PySem.AutoSeq1
namespace Dl
open PySem PySem.Spec PyProof.Rows L2
section
variable {X : Cx}
def rExtendT (K : PySem.W.Frag) : V → List V → Hp → VK → Prop := fun x vs H Q => ∃ l b xs zs, x = .ref l ∧ vs = [.ref b] ∧ H l = some (.lst xs) ∧ SqT K H b zs ∧ xs.length + zs.length ≤ sizeLine ∧ Q .non (upd H l (.lst (xs ++ zs)))
theorem mt_extendT : MtM X "list.extend" (rExtendT X.K) := by
  intro pins s σ H x vs v us Q I rx rv h
  obtain ⟨l, b, xs, zs, rfl, rfl, hH, hB, hz, q⟩ := h
  cases rx
  obtain ⟨u, rfl, ru⟩ := rv.one
  cases ru
  obtain ⟨z, its, n, r, hl, e⟩ := I.lstM hH
  obtain ⟨its2, r2, ⟨⟨oc, od, oda, osl⟩, e2, k1, n2, k2⟩, hl2⟩ := I.tuple hB
  simp only at k1 k2
  subst k1; subst k2
  have hsz : its.toArray.size + its2.toArray.size ≤ sizeLine := by rw [List.size_toArray, List.size_toArray, ← r2.length]; omega
  have hlong : ¬ (!its.toArray.isEmpty && Builtin.List.listTooLong (its.toArray.size + its2.toArray.size)) = true := by
    rw [notLongL hsz, Bool.and_false]
    exact Bool.false_ne_true
  refine call_meets F.slot_list_extend ⟨_, e, rfl⟩ F.entry_list_extend (F.args_list_extend_2 _ _)
    (AutoSeq1.list_extend_list_tupleX l its.toArray n b its2.toArray n2 od osl hlong (by rw [List.size_toArray]; omega) (by omega)) ⟨e, e2, ?_⟩
  refine ⟨.non, _, I.lset (its' := its ++ its2) hH e (by simp) (r.append r2) ?_, rfl, q⟩
  rw [List.length_append]
  omega
end
section
variable {I : Inf} {c : Ct} {ds : List SD} {A : After} {st : Stmt} {rest : List Stmt} {e : Expr} {P : D → Prop} {pos : Pos} {d : D}
theorem rs_extend {i : Nat} {x : Str} {l m : List D} {p p2 p3 p4 : Pos} (hN : I.N[i]? = some x) (hv : Vis I.sc x) (ho : ds[i]? = some (.own l)) (hl : l.length + m.length ≤ Lm) (h : EvE I c e ds (· = .tuple m)) (hn : A.nx (ds.set i (.own (l ++ m))))
    (h1 : (x == ("__debug__" : Str)) = false := by decide) (h2 : (x == ("__classdict__" : Str)) = false := by decide)
    (hsx : ∀ X, Fits I X → starEach [e] X.env = (false, eval e X.env) :: starEach [] X.env := by intros; rfl) (hline : (p2.endLine == p3.line) = true := by rfl)
    (hfew : ∀ X, Fits I X → ((((backTo p3 (starEach [e] X.env)).all fun x => !x.fst) && (backToKw p3 (keywordEach [] X.env)).all fun x => x.fst.isSome) && decide (([e].length + ([] : List Keyword).length + if ([] : List Keyword).isEmpty = true then 0 else 1) < 30)) = true := by intros; rfl) :
    RunS I c (.Expr (.Call (.Attribute (.Name x p) ("extend" : Str) p2) [e] [] p3) p4) ds A := fun X F σ G H E s k => by
  have go : PE X (.Call (.Attribute (.Name x p) ("extend" : Str) p2) [e] [] p3) _ := pe_bm PySem.F.plainAttrs_list PySem.F.slot_list_extend PySem.F.type_list_extend mt_extendT (pe_var (i := i) (by rw [F.N]; exact hN) (by rw [F.sc]; exact hv) h1 h2) (pa_cons (pe_w (e := e)) pa_nil (hsx X F)) (hfew := hfew X F) (hline := hline) (hs := hsx X F)
  refine w_ps (ps_expr go) ?_
  obtain ⟨q, xs, e1, h0, h3, h4, h5, h6, h7⟩ := own_at s ho
  refine ⟨.ref q, e1, .inl ⟨rfl, xs, SqL.of h6⟩, h X F σ G H s _ fun v G1 H1 d x1 s1 r1 p1 => ?_⟩
  subst p1
  obtain ⟨ys, g1, g2, g3⟩ := own_same s s1 ho e1
  obtain ⟨a, zs, rfl, t1, t2, t3⟩ := r1.tup'
  have hlen : l.length + m.length ≤ Lm := hl
  refine ⟨q, a, ys, zs, rfl, rfl, g1, by rw [F.K]; exact ex_t s1.ex t1, by rw [g2.length, t3.length]; exact Nat.le_of_lt (Lm_lt hlen), ?_⟩
  exact k.nx σ G1 _ _ x1.g (own_put s1 ho e1 (g2.append t3) (by rw [List.length_append]; exact hlen)) hn
theorem wk_range2 {tg a b : Expr} {p : Pos} {i j : Int} (hg : I.sc.names.lookup ("range" : Str) = some .globalImplicit) (hm : I.mg "range" = none) (h : EvA I c [a, b] ds (· = [.int i, .int j])) (h1 : -(2 ^ 62) ≤ i) (h2 : i < 2 ^ 62) (h3 : -(2 ^ 62) ≤ j) (h4 : j < 2 ^ 62)
    (hs : ∀ X, Fits I X → starEach [a, b] X.env = [(false, eval a X.env), (false, eval b X.env)] := by intros; rfl) (hs2 : ∀ X, Fits I X → starEach [b] X.env = [(false, eval b X.env)] := by intros; rfl) : Walk I c tg (.Call (.Name "range" p) [a, b] [] pos) ds (· = intsD i (j - i).toNat) := fun X F =>
  ⟨_, pi_range2 (by show X.env.scope.names.lookup _ = _; rw [F.sc]; exact hg) (by rw [F.mg]; exact hm) pa_w (hs X F) (hs2 X F), fun σ G H s R k => h X F σ G H s _ fun vs G1 H1 l x1 s1 r1 p1 => by
    subst p1
    obtain ⟨v1, v2, rfl, q1, q2⟩ := rpa2 r1
    rw [q1.int', q2.int']
    exact ⟨i, j, rfl, ⟨h1, h2, h3, h4⟩, k _ G1 H1 _ x1 s1 yields_intsD rfl⟩⟩
end
end Dl


set_option Elab.async false
set_option maxRecDepth 100000
set_option linter.all false
set_option maxHeartbeats 1000000
/-! enumerate of a tuple; a pair within a pair as a target -/
namespace Dl
open PySem PySem.Spec PyProof.Rows L2
open AutoSeq1 (wpAny_loadPart')
theorem meets_enumerate_newT (l : Addr) (items : Array Value) (n : Nat) (dct : Option Addr) (sl : Array (Option Value)) :
    Meets (Builtin.«enumerate.__new__» ⟨[.type "enumerate", .ref l], []⟩) (fun _ R s => s.heap.get? l = some { cls := .type "tuple", dict := dct, data := .seq items n, slots := sl } ∧
      R (.ok (.ret (.ref (s.heap.push { cls := .type "tuple_iterator", data := .fields #[.ref l, .int 0 0] }).objs.size)))
        { s with heap := (s.heap.push { cls := .type "tuple_iterator", data := .fields #[.ref l, .int 0 0] }).push { cls := .type "enumerate", data := .fields #[.none, .bool false, .ref s.heap.objs.size, rawInt 0, .none, .none] } }) :=
  .of_wp fun prog w A R s h => by
    obtain ⟨hp, g, d, tk, os⟩ := s; obtain ⟨hl, h⟩ := h
    have hsub := sub_enumerate
    have hL : Heap.IsTuple (Shared.heap ⟨hp, g, d, tk, os⟩) l items := ⟨_, hl, rfl, n, rfl⟩
    wp_walk using wpAny_loadPart' hl
    refine wpAny_stack_any fun st => wpAny_pure ?_
    split
    · rename_i c _ _ _ _ _
      cases (c == Value.type "enumerate")
      · wp_walk using wpAny_loadPart' hl, wpAny_pyIter_tuple hL
        exact ⟨_, rfl, h⟩
      · wp_walk using wpAny_loadPart' hl, wpAny_pyIter_tuple hL
        exact ⟨_, rfl, h⟩
    · wp_walk using wpAny_loadPart' hl, wpAny_pyIter_tuple hL
      exact ⟨_, rfl, h⟩
section
variable {prog : Program} {w : World} {A : Around} {E : Value → Shared → Prop} {s : Shared}
theorem call_enumerate_tuple {l : Addr} {items : Array Value} {Q : Value → Shared → Prop} (hL : s.heap.IsTuple l items)
    (h : ∀ h', IsEnum h' (s.heap.objs.size + 1) s.heap.objs.size 0 .none → h'.IsTupleIter s.heap.objs.size l 0 → h'.objs.size = s.heap.objs.size + 2 →
      (∀ b o, s.heap.get? b = some o → h'.get? b = some o) → Q (.ref (s.heap.objs.size + 1)) { s with heap := h' }) :
    wpAny (model prog w) A (call (.type "enumerate") [.ref l]) Q E s := by
  obtain ⟨⟨c, dct, dt, sl⟩, hl, hc, n, hd⟩ := hL
  replace hc : c = .type "tuple" := hc
  replace hd : dt = .seq items n := hd
  subst hc hd
  refine callType_new F.called_enumerate (by decide) (F.typeCall_enumerate_1 _) (F.newCall_enumerate_1 _) (fun obj => F.args_object_init_2 obj _) F.entry_enumerate_new
    (meets_enumerate_newT l items n dct sl) ⟨hl, ?_⟩
  have hz : (s.heap.push { cls := .type "tuple_iterator", data := .fields #[.ref l, .int 0 0] }).objs.size = s.heap.objs.size + 1 := Heap.size_push ..
  show _ ∧ _
  rw [hz]
  have he : IsEnum ((s.heap.push { cls := .type "tuple_iterator", data := .fields #[.ref l, .int 0 0] }).push
      { cls := .type "enumerate", data := .fields #[.none, .bool false, .ref s.heap.objs.size, rawInt 0, .none, .none] }) (s.heap.objs.size + 1) s.heap.objs.size 0 .none := by
    have := Heap.get?_push_size (s.heap.push { cls := .type "tuple_iterator", data := .fields #[.ref l, .int 0 0] })
      (o := { cls := .type "enumerate", data := .fields #[.none, .bool false, .ref s.heap.objs.size, rawInt 0, .none, .none] }) rfl
    rw [hz] at this; exact this
  refine ⟨⟨_, he, rfl⟩, h _ he ⟨_, Heap.get?_push_of_some _ (Heap.get?_push_size _ rfl), rfl, rfl⟩ (by rw [Heap.size_push, hz]) fun b o x => Heap.get?_push_of_some _ (Heap.get?_push_of_some _ x)⟩
theorem pyNext_enumT_end {e it l : Addr} {i : Nat} {items : Array Value} {old : Value} {Q : Option Value → Shared → Prop} (hh : A.handled = none)
    (he : IsEnum s.heap e it i old) (hit : s.heap.IsTupleIter it l i) (hl : s.heap.IsTuple l items) (hx : items[i]? = none)
    (hQ : ∀ h', Heap.ExtBut it s.heap h' → Q none { s with heap := h' }) : wpAny (model prog w) A (pyNext (.ref e)) Q E s := by
  have hT : s.TypeIs (.ref e) "enumerate" := ⟨_, he, rfl⟩
  unfold pyNext
  refine wpAny_bind (wpAny_attempt (wpAny_callSpecial?_slot (name := Str.ofString "__next__") hT F.slot_enumerate_next
    (wpAny_call_entry F.slot_enumerate_next hT F.entry_enumerate_next ?_ (F.args_enumerate_next_1 _))))
  show wpAny _ _ (field (.ref e) 2 >>= _) _ _ _
  refine wpAny_bind (wpAny_field he rfl (x := .ref it) rfl ?_)
  refine wpAny_bind (RZ.nextOf_tuple_end hh hit hl hx fun h' x he' hx' => ?_)
  obtain ⟨o, ho, hc⟩ := hx'
  refine wpAny_bind (wpAny_isInstance (T := "StopIteration") (b := true) ⟨o, ho, hc⟩ isSubtype_stop ?_)
  exact wpAny_pure (hQ _ he')
end
/-- the tuple at a as it stands at each turn, each item in a new pair -/
def IteT (K : PySem.W.Frag) (a : Addr) : It :=
  ⟨fun i H => ∃ (xs : List V) (x : V), SqT K H a xs ∧ xs[i]? = some x, fun i H v H' => ∃ T x, v = .ref T ∧ H T = none ∧ H' = upd H T (.tup [.int (i : Nat), x]) ∧ ∀ xs, SqT K H a xs → xs[i]? = some x, fun i H => ∃ xs : List V, SqT K H a xs ∧ xs.length ≤ i⟩
theorem turn_enumT {P : Program} {w : World} {K : PySem.W.Frag} {elts : List Expr} {kk : Nat} {tpos : Pos} (a e it : Addr) (hai : a ≠ it) :
    Turn P w K (.Tuple elts kk tpos) (IteT K a) [e, it] e (fun i h => (∃ old, IsEnum h e it ((i : Nat) : Int) old) ∧ h.IsTupleIter it a i ∧ e ≠ it ∧ e ≠ a) where
  mem := by simp
  obj := fun i h st b hb => by
    obtain ⟨⟨old, he⟩, ⟨o, ho, hc, hd⟩, _⟩ := st
    have e' : b = e ∨ b = it := by simpa using hb
    rcases e' with z | z
    · rw [z]; exact ⟨_, he, fun v q => nomatch q⟩
    · rw [z]; exact ⟨o, ho, fun v q => by rw [hd] at q; cases q⟩
  keep := fun i h h' st k => let ⟨⟨old, he⟩, hi, hne, hna⟩ := st; ⟨⟨old, k e (by simp) _ he⟩, hi.at fun o q => k it (by simp) o q, hne, hna⟩
  item := by
    intro X hP hw hK hc i pins s σ H E I hf st hg
    subst hP hw hK
    obtain ⟨⟨old, he⟩, hit, hne, hna⟩ := st
    obtain ⟨xs, x, hq, hx⟩ := hg
    obtain ⟨its, rv, p, hz⟩ := I.tuple hq
    obtain ⟨u, hu, ru⟩ := rv.get hx
    have hel : e < s.heap.objs.size := Heap.lt_size he
    have hil : it < s.heap.objs.size := by obtain ⟨_, q, _⟩ := hit; exact Heap.lt_size q
    have hlt : i < its.toArray.size := by
      have := (List.getElem?_eq_some_iff.mp hu).1
      simpa using this
    refine wpAny_pyNext_enum_itemD (Draws.tuple (A := X.A.in1) (I.ok.hd hc) it a hai its.toArray) he ⟨hit, p⟩ hlt hne (by simp; exact ⟨hne, hna⟩) fun u' h' tk hP ho hst' hT hsz hk => ?_
    have eu : u' = u := by
      have h1 : its.toArray[i]? = some u' := hP
      have h2 : its.toArray[i]? = some u := by simpa using hu
      rw [h1] at h2; exact Option.some.inj h2
    subst eu
    refine ⟨_, rfl, wpAny_letOwnedTupleGo_enum (s := { s with heap := h', toks := tk + 1 }) ho fun h'' he' sb => ?_⟩
    have hT2 : h''.get? s.heap.objs.size = some { cls := .type "tuple", data := .seq #[.int i tk, u'] } := (sb.2 _ (Nat.ne_of_gt hel)).trans hT
    have new : ObjOk X.prog X.w (upd H s.heap.objs.size (.tup [.int (i : Nat), x])) h'' s.heap.objs.size (.tup [.int (i : Nat), x]) :=
      ⟨by show 2 ≤ sizeLine; decide, [.int i tk, u'], .cons ⟨_, rfl⟩ (.cons ru .nil), ⟨_, hT2, rfl, _, rfl⟩⟩
    have I1 : Inv X pins σ (upd H s.heap.objs.size (.tup [.int (i : Nat), x])) { s with heap := h'', toks := tk + 1 } :=
      I.turnedNew (ch := [e, it]) (fun b ob hb q => (sb.2 b (fun z => hb (by simp [z]))).trans (hk b ob (fun z => hb (by simp [z])) (fun z => hb (by simp [z])) q)) hf (Nat.le_refl _) new
    refine ⟨.ref s.heap.objs.size, _, I1, rfl, ⟨_, x, rfl, I.hok.fresh (Nat.le_refl _), rfl, fun ys hy => by rw [I.tuple_inj hy hq]; exact hx⟩, ⟨⟨u', ?_⟩, hst'.1.at fun o q => (sb.2 it (Ne.symm hne)).trans q, hne, hna⟩, fun b hb => ?_⟩
    · have e1 : ((i + 1 : Nat) : Int) = (i : Int) + 1 := by omega
      rw [e1]; exact he'
    · have hb' : b < s.heap.objs.size := by
        have e' : b = e ∨ b = it := by simpa using hb
        rcases e' with z | z
        · rw [z]; exact hel
        · rw [z]; exact hil
      rw [upd_ne (Nat.ne_of_lt hb')]
      exact (hf b hb).1
  done := by
    intro X hP hw hK hc i pins s σ H E I hf st hg
    subst hP hw hK
    obtain ⟨⟨old, he⟩, hit, hne⟩ := st
    obtain ⟨xs, hq, hx⟩ := hg
    obtain ⟨its, rv, p, hz⟩ := I.tuple hq
    obtain ⟨f0, f1, f2, f3, f4, f5⟩ := hf it (by simp)
    have hl := rv.length
    exact pyNext_enumT_end (I.ok.hd hc) he hit p (by simp; omega) fun h' eb => ⟨rfl, I.turned (t' := s.toks) (fun b o hb q => eb b o hb q) f0 f1 f3 f4 f5⟩
  self := fun A i s Q E st h => let ⟨⟨_, he⟩, _⟩ := st; wpAny_pyIter_enum he h
def iEnumT (K : PySem.W.Frag) (ta : TA) : TI := fun σ H R => ta σ H fun vs H1 => ∃ a xs, vs = [.ref a] ∧ SqT K H1 a xs ∧ R (IteT K a) H1
theorem pi_enumT {X : Cx} {e : Expr} {ta : TA} {p pos tpos : Pos} {elts : List Expr} {kk : Nat} (hg : Gl X "enumerate") (hm : X.mg "enumerate" = none) (ha : PA X [e] ta) (hs : starEach [e] X.env = [(false, eval e X.env)] := by rfl) :
    PI X (.Tuple elts kk tpos) (.Call (.Name "enumerate" p) [e] [] pos) (iEnumT X.K ta) := by
  refine ⟨fun pins s σ H R I h => ?_⟩
  refine Call_ (ld_blt I hg hm boot_enumerate (PyProof.Rows.callWith_type1 (thn (ha.run pos pins s σ H _ I h) fun us s1 ⟨vs, H1, I1, r1, q1⟩ => ?_) hs rfl))
  obtain ⟨a, xs, ex, hq, q⟩ := q1
  subst ex
  cases r1 with
  | cons r rr =>
    cases rr
    cases r
    obtain ⟨its, rv, p', hz⟩ := I1.tuple hq
    have hal : a < s1.heap.objs.size := by obtain ⟨o, q, _⟩ := p'; exact Heap.lt_size q
    refine call_enumerate_tuple p' fun h' he hit hsz hk => wpAny_pyIter_enum he ?_
    have I2 : Inv X pins σ H1 { s1 with heap := h' } := I1.kept (t' := s1.toks) hk
    refine ⟨s1.heap.objs.size + 1, [s1.heap.objs.size + 1, s1.heap.objs.size], _, _, H1, rfl, I2, turn_enumT a (s1.heap.objs.size + 1) s1.heap.objs.size (Nat.ne_of_lt hal), ⟨⟨.none, he⟩, hit, Nat.succ_ne_self _, Nat.ne_of_gt (Nat.lt_succ_of_lt hal)⟩, fun b hb => ?_, q⟩
    have e' : b = s1.heap.objs.size + 1 ∨ b = s1.heap.objs.size := by simpa using hb
    have hle : s1.heap.objs.size ≤ b := by
      rcases e' with z | z
      · rw [z]; exact Nat.le_add_right _ _
      · rw [z]; exact Nat.le_refl _
    exact I1.fpOk hle (I1.hok.fresh hle)
theorem yields_enumT {K : Frag} {a : Addr} {xs : List V} {l : List D} {G : Hp} (h : SqT K G a xs) (r : RpA K G l xs) : Yields K (IteT K a) G (enumL l) := fun Z G0 H0 σ ds G1 H x s =>
  ⟨fun i d hi => by
    obtain ⟨d0, h0, rfl⟩ := enumL_get hi
    obtain ⟨v, h1, h2⟩ := r.get h0
    have hq : SqT K H a xs := ex_t s.ex (ex_t x h)
    exact ⟨⟨xs, v, hq, h1⟩, fun y H' ⟨T, w, e1, hT, e2, q⟩ => by
      subst e1; subst e2
      have := q xs hq
      rw [h1] at this; cases this
      exact State.tupled s hT .int (h2.mono x)⟩, ⟨xs, ex_t s.ex (ex_t x h), by rw [r.length, enumL_length]; exact Nat.le_refl _⟩⟩
section
variable {I : Inf} {c : Ct} {ds : List SD} {e : Expr} {pos : Pos}
theorem wk_enumT {elts : List Expr} {kk : Nat} {tpos p : Pos} {l : List D} (hg : I.sc.names.lookup ("enumerate" : Str) = some .globalImplicit) (hm : I.mg "enumerate" = none) (h : EvE I c e ds (· = .tuple l))
    (hs : ∀ X, Fits I X → starEach [e] X.env = [(false, eval e X.env)] := by intros; rfl) : Walk I c (.Tuple elts kk tpos) (.Call (.Name "enumerate" p) [e] [] pos) ds (· = enumL l) := fun X F =>
  ⟨_, pi_enumT (by show X.env.scope.names.lookup _ = _; rw [F.sc]; exact hg) (by rw [F.mg]; exact hm) (pa_cons pe_w pa_nil (hs X F)) (hs X F), fun σ G H s R k => h X F σ G H s _ fun v G1 H1 d x1 s1 r1 p1 => by
    subst p1
    obtain ⟨a, xs, rfl, h1, h2, h3⟩ := r1.tup'
    have := k (IteT I.K a) G1 H1 _ x1 s1 (yields_enumT h1 h3) rfl
    exact ⟨a, xs, rfl, by rw [F.K]; exact ex_t s1.ex h1, by rw [F.K]; exact this⟩⟩
end
theorem tg_nest {I : Inf} {i j m : Nat} {x y z : Str} {p1 p2 p3 p p0 : Pos} {kk k2 : Nat} (hx : Sto I i x) (hy : Sto I j y) (hz : Sto I m z) : TgE I (.Tuple [.Name x p1, .Tuple [.Name y p2, .Name z p3] k2 p0] kk p) (fun d as => ∃ d1 d2 d3, d = .tuple [d1, .tuple [d2, d3]] ∧ as = [(i, d1), (j, d2), (m, d3)]) :=
  ⟨gTup I.K 2 (gCons (gName i) (gCons (gTup I.K 2 (gCons (gName j) (gCons (gName m) gNil))) gNil)), fun X F => F.K ▸ pg_tup F.calm (pgs_cons (pg_name (i := i) (by rw [F.N]; exact F.nd) (by rw [F.N]; exact hx.at_) (by rw [F.sc]; exact hx.loc) (hx.fn F)) (pgs_cons (pg_tup F.calm (pgs_cons (pg_name (i := j) (by rw [F.N]; exact F.nd) (by rw [F.N]; exact hy.at_) (by rw [F.sc]; exact hy.loc) (hy.fn F)) (pgs_cons (pg_name (i := m) (by rw [F.N]; exact F.nd) (by rw [F.N]; exact hz.at_) (by rw [F.sc]; exact hz.loc) (hz.fn F)) pgs_nil))) pgs_nil)),
    fun c σ G H ds v d as s r ha Q k => by
    obtain ⟨d1, d2, d3, rfl, rfl⟩ := ha
    obtain ⟨a, xs, rfl, hq, _, ra⟩ := r.tup'
    obtain ⟨v1, v2, rfl, r1, r2⟩ := rpa2 ra
    obtain ⟨a2, ys, rfl, hq2, _, ra2⟩ := r2.tup'
    obtain ⟨v3, v4, rfl, r3, r4⟩ := rpa2 ra2
    have s1 := State.set s (i := i) (sd := .dat d1) rfl ⟨v1, rfl, r1⟩
    have s2 := State.set s1 (i := j) (sd := .dat d2) rfl ⟨v3, rfl, r3⟩
    have s3 := State.set s2 (i := m) (sd := .dat d3) rfl ⟨v4, rfl, r4⟩
    refine ⟨a, [v1, .ref a2], rfl, ex_t s.ex hq, rfl, v1, [.ref a2], rfl, .ref a2, [], rfl, a2, [v3, v4], rfl, ex_t s.ex hq2, rfl, v3, [v4], rfl, v4, [], rfl, rfl, rfl, ?_⟩
    exact k _ s3 (fun vs hv => (wipe_set (hv (m, d3) (by simp))).trans ((wipe_set (hv (j, d2) (by simp))).trans (wipe_set (hv (i, d1) (by simp))))) (fun p h => h.set.set.set)⟩
end Dl


set_option Elab.async false
set_option maxRecDepth 100000
set_option linter.all false
set_option maxHeartbeats 1000000
/-! every other item of a tuple: t[::2], t[1::2] -/
namespace Dl
open PySem PySem.Spec PyProof.Rows L2 HT
section
variable {prog : Program} {w : World} {A : Around} {E : Value → Shared → Prop} {s : Shared}
theorem sliceApplied_two {sl : Addr} {vl vs : Value} {lo : Option Int} {a m n : Nat} {Q : Int × Int × Nat → Shared → Prop} (hs : s.heap.IsSliceOf sl vl .none vs) (pl : IsPart vl lo) (ps : IsPart vs (some 2)) (hlo : lo = none ∧ a = 0 ∨ lo = some 1 ∧ a = 1) (hn : n = 2 * m) (hm : 1 ≤ m)
    (h : Q ((a : Int), 2, m) s) : wpAny (model prog w) A (Builtin.Slice.sliceApplied (.ref sl) (pure (n : Int))) Q E s := by
  obtain ⟨os, hos, hcs, hds⟩ := id hs
  unfold Builtin.Slice.sliceApplied Builtin.Slice.sliceFields
  refine wpAny_bind (wpAny_bind (wpAny_field hos hds (x := vl) rfl (wpAny_bind (wpAny_field hos hds (x := .none) rfl (wpAny_bind (wpAny_field hos hds (x := vs) rfl (wpAny_pure ?_)))))))
  refine wpAny_bind (slicePart_ ps ?_)
  show wpAny _ _ (if ((2 : Int) == 0) = true then _ else _) _ _ s
  rw [if_neg (by decide)]
  refine wpAny_bind (slicePart_ pl (wpAny_bind (slicePart_ .none (wpAny_bind (wpAny_pure ?_)))))
  show wpAny _ _ (match Builtin.Slice.sliceAdjust lo none 2 (n : Int) with | (lo, hi) => pure (lo, (2 : Int), Builtin.Slice.slicePlaces lo hi 2)) _ _ s
  have e1 : Builtin.Slice.sliceAdjust lo none 2 (n : Int) = ((a : Int), (n : Int)) := by
    unfold Builtin.Slice.sliceAdjust
    rcases hlo with ⟨rfl, rfl⟩ | ⟨rfl, rfl⟩
    · rfl
    · show ((if (1 : Int) < 0 then _ else min (1 : Int) (n : Int)), (n : Int)) = _
      rw [if_neg (by decide)]
      congr 1
      omega
  rw [e1]
  have e2 : Builtin.Slice.slicePlaces (a : Int) (n : Int) 2 = m := by
    unfold Builtin.Slice.slicePlaces
    have h1 : (2 : Int) > 0 := by omega
    simp only [h1, if_true]
    rw [if_pos (by omega)]
    omega
  show wpAny _ _ (pure ((a : Int), (2 : Int), Builtin.Slice.slicePlaces (a : Int) (n : Int) 2)) _ _ s
  rw [e2]
  exact wpAny_pure h
theorem getItem_tuple_two {t sl : Addr} {items : Array Value} {vl vs : Value} {lo : Option Int} {a m : Nat} {Q : Value → Shared → Prop} (ht : IsTup s.heap t items) (hs : s.heap.IsSliceOf sl vl .none vs) (pl : IsPart vl lo) (ps : IsPart vs (some 2))
    (hlo : lo = none ∧ a = 0 ∨ lo = some 1 ∧ a = 1) (hn : items.size = 2 * m) (hm : 1 ≤ m)
    (h : Q (.ref s.heap.objs.size) { s with heap := s.heap.push { cls := .type "tuple", data := .seq ((List.range m).filterMap (fun (i : Nat) => items[((a : Int) + (i : Int) * 2).toNat]?)).toArray } })
    (hsz : items.size ≤ sizeLine) : wpAny (model prog w) A (getItem (.ref t) (.ref sl)) Q E s := by
  have htake : sizeOk (.seq ((List.range m).filterMap (fun (i : Nat) => items[((a : Int) + (i : Int) * 2).toNat]?)).toArray) := by
    show ((List.range m).filterMap (fun (i : Nat) => items[((a : Int) + (i : Int) * 2).toNat]?)).toArray.size ≤ sizeLine
    rw [List.size_toArray]
    have := List.length_filterMap_le (fun (i : Nat) => items[((a : Int) + (i : Int) * 2).toNat]?) (List.range m)
    rw [List.length_range] at this
    omega
  obtain ⟨os, hos, hcs, hds⟩ := id hs
  have hTs : s.TypeIs (.ref sl) "slice" := ⟨os, hos, hcs⟩
  unfold getItem
  try with_reducible refine wpAny_holding ?_
  first | refine wpAny_bind (wpAny_pure ?_) | skip
  refine wpAny_bind (wpAny_sequenceKey ht.typeIs (by decide) ?_)
  refine wpAny_bind (wpAny_callSpecial?_slot (name := Str.ofString "__getitem__") ht.typeIs PyProof.Rows.slot_tuple_getitem
    (wpAny_call_entry PyProof.Rows.slot_tuple_getitem ht.typeIs entry_tuple_getitem ?_ (args_tuple_getitem _ _)))
  show wpAny _ _ (Builtin.Tuple.tupleItemsOf (.ref t) >>= _) _ _ s
  refine wpAny_bind (tupleItemsOf_ ht ?_)
  refine wpAny_bind (wpAny_typeOf hTs ?_)
  rw [if_pos (by decide)]
  refine wpAny_bind (sliceApplied_two hs pl ps hlo hn hm ?_)
  have hno : ¬ ((((a : Nat) : Int) == 0 && (2 : Int) == 1 && m == items.size) = true) := by
    intro q
    rw [Bool.and_eq_true, Bool.and_eq_true] at q
    exact absurd q.1.2 (by decide)
  show wpAny _ _ (if (((a : Nat) : Int) == 0 && (2 : Int) == 1 && m == items.size) = true then _ else _) _ _ s
  rw [if_neg hno]
  first
    | exact wpAny_bind (m := Builtin.Tuple.tupleExact _) (wpAny_newObj_type (wpAny_pure ⟨_, rfl, wpAny_pure h⟩) htake)
    | exact wpAny_bind (m := Builtin.Tuple.tupleExact _) (wpAny_newObj_type (wpAny_bind (wpAny_pure (wpAny_pure ⟨_, rfl, wpAny_pure h⟩))) htake)
end
/-- every other item -/
def halfL {α : Type} (a m : Nat) (l : List α) : List α := (List.range m).filterMap (fun i => l[2 * i + a]?)
theorem vals_pick {xs : List V} {us : List Value} (r : Vals xs us) : ∀ is : List Nat, Vals (is.filterMap (fun i => xs[i]?)) (is.filterMap (fun i => us[i]?))
  | [] => .nil
  | i :: is => by
    have ih := vals_pick r is
    rw [List.filterMap_cons, List.filterMap_cons]
    cases e : xs[i]? with
    | none =>
      have : us[i]? = none := by
        rw [List.getElem?_eq_none_iff] at e ⊢
        have := r.length; omega
      rw [this]; exact ih
    | some v =>
      obtain ⟨u, hu, ru⟩ := r.get e
      rw [hu]; exact .cons ru ih
theorem half_map {α : Type} (a m : Nat) (l : List α) : halfL a m l = ((List.range m).map (fun i => 2 * i + a)).filterMap (fun i => l[i]?) := by
  unfold halfL; rw [List.filterMap_map]; rfl
theorem pe_half {X : Cx} {e : Expr} {te ts : TE} {tl : TO} {lo : Option Expr} {st : Expr} {p2 pos : Pos} (he : PE X e te) (hl : PO X lo tl) (hst : PE X st ts) (hsub : ∀ v r, subscripted (.Slice lo none (some st) p2) false v r = operate [v, r] (getItem v r)) :
    PE X (.Subscript e (.Slice lo none (some st) p2) pos) (fun σ H Q => te σ H fun x H1 => tl σ H1 fun o H2 => ts σ H2 fun y H3 => ∃ a xs k m, x = .ref a ∧ y = .int 2 ∧ (o = none ∧ k = 0 ∨ o = some 1 ∧ k = 1) ∧ SqT X.K H3 a xs ∧ xs.length = 2 * m ∧ 1 ≤ m ∧ ∀ p, H3 p = none → Q (.ref p) (upd H3 p (.tup (halfL k m xs)))) := by
  refine ⟨fun pins s σ H Q I h => Subscript_ (thn (he.run pins s σ H _ I h) fun v s1 ⟨x, H1, I1, r1, q1⟩ => wpAny_Slice (thn (hl.run pins s1 σ H1 _ I1 q1) fun vl s2 ⟨o, H2, I2, pl, q2⟩ => ?_))⟩
  rw [evalPart_none, evalPart_some]
  refine wpAny_pure (thn (hst.run pins s2 σ H2 _ I2 q2) fun vk s3 ⟨y, H3, I3, ry, a, xs, k, m, ex, ey, hk, hx, hn, hm, q⟩ => ?_)
  subst ex; subst ey
  obtain ⟨tk, rfl⟩ := ry
  cases r1
  have I4 : Inv X pins σ H3 { s3 with heap := s3.heap.push { cls := .type "slice", data := .fields #[vl, .none, .int 2 tk] } } := I3.kept (t' := s3.toks) fun b ob q => Heap.get?_push_of_some _ q
  obtain ⟨its, r, ht, hz⟩ := I4.tuple hx
  have hlen := r.length
  show wpAny (model X.prog X.w) X.A (subscriptTail e (.Slice lo none (some st) p2) (.ref a) (.ref s3.heap.objs.size)) (EP X pins σ Q) X.xe { s3 with heap := s3.heap.push { cls := .type "slice", data := .fields #[vl, .none, .int 2 tk] } }
  refine PyProof.Rows.tail_any (ops := [.ref a, .ref s3.heap.objs.size]) ht.typeIs PyProof.Rows.slot_tuple_getitem.lookup ?_ (hsub _ _)
  refine getItem_tuple_two ht (Heap.IsSliceOf.new ..) pl (.int 2 tk) hk (by rw [List.size_toArray]; omega) hm ?_ (by rw [List.size_toArray]; omega)
  have ep : (List.range m).filterMap (fun (i : Nat) => its.toArray[((k : Int) + (i : Int) * 2).toNat]?) = ((List.range m).map (fun i => 2 * i + k)).filterMap (fun i => its[i]?) := by
    rw [List.filterMap_map]
    congr 1
    funext i
    have : ((k : Int) + (i : Int) * 2).toNat = 2 * i + k := by omega
    rw [this]; simp
  rw [ep]
  refine ⟨.ref _, _, I4.laid (t' := s3.toks) (o := .tup (halfL k m xs)) (fun b ob q => Heap.get?_push_of_some _ q) (Nat.le_refl _) ?_, rfl, q _ (I4.hok.fresh (Nat.le_refl _))⟩
  rw [half_map]
  have hle := List.length_filterMap_le (fun i => xs[i]?) ((List.range m).map (fun i => 2 * i + k))
  rw [List.length_map, List.length_range] at hle
  exact ⟨by omega, _, vals_pick r _, IsTup.new _ _⟩
theorem rpa_pick {K : Frag} {G : Hp} {l : List D} {vs : List V} (r : RpA K G l vs) : ∀ is : List Nat, RpA K G (is.filterMap (fun i => l[i]?)) (is.filterMap (fun i => vs[i]?))
  | [] => RpA.nil
  | i :: is => by
    have ih := rpa_pick r is
    rw [List.filterMap_cons, List.filterMap_cons]
    cases e : l[i]? with
    | none =>
      have : vs[i]? = none := by
        rw [List.getElem?_eq_none_iff] at e ⊢
        have := r.length; omega
      rw [this]; exact ih
    | some v =>
      obtain ⟨u, hu, ru⟩ := r.get e
      rw [hu]; exact RpA.cons ru ih
section
variable {I : Inf} {c : Ct} {ds : List SD} {a : Expr} {pos : Pos}
theorem ev_half {lo : Option Expr} {p1 p2 : Pos} {j} {l : List D} {o : Option Int} {k m : Nat} (ha : EvE I c a ds (· = .tuple l)) (h1 : EvO I c lo ds (· = o)) (hk : o = none ∧ k = 0 ∨ o = some 1 ∧ k = 1) (hn : l.length = 2 * m) (hm : 1 ≤ m) (hsub : ∀ v r, subscripted (.Slice lo none (some (.Constant (.int 2) j p1)) p2) false v r = operate [v, r] (getItem v r) := by intros; with_unfolding_all rfl) :
    EvE I c (.Subscript a (.Slice lo none (some (.Constant (.int 2) j p1)) p2) pos) ds (· = .tuple (halfL k m l)) := fun X F σ G H s Q kk => by
  obtain ⟨tl, pl, ql⟩ := h1 X F
  refine w_pe (pe_half pe_w pl pe_int hsub) ?_
  refine ha X F σ G H s _ fun x G1 H1 d x1 s1 r1 p1 => ql σ G1 H1 s1 _ fun o' G2 H2 x2 s2 p2 => ?_
  subst p1; subst p2
  obtain ⟨a', xs, rfl, hq, hl, r⟩ := (r1.mono x2.g).tup'
  refine ⟨a', xs, k, m, rfl, rfl, hk, by rw [F.K]; exact ex_t s2.ex hq, by rw [r.length]; exact hn, hm, fun p np => ?_⟩
  obtain ⟨s4, x4⟩ := s2.laid (o := .tup (halfL k m xs)) np
  have hle := List.length_filterMap_le (fun i => l[2 * i + k]?) (List.range m)
  rw [List.length_range] at hle
  refine kk _ _ _ _ ((x1.trans x2).trans x4) s4 (.tup (SqT.of upd_same) (by show (halfL k m l).length ≤ _; unfold halfL; omega) ?_) rfl
  have := rpa_pick (r.mono x4.g) ((List.range m).map (fun i => 2 * i + k))
  rw [← half_map, ← half_map] at this
  exact this
end
end Dl


set_option Elab.async false
set_option maxRecDepth 100000
set_option linter.all false
set_option maxHeartbeats 2000000
/-! a call by two keywords; max and min of two ints -/
namespace Dl
open PySem PySem.Spec PyProof.Rows L2
/-- a def with its two parameters by name, the last one first -/
structure FnK2 (I : Inf) (x k1 k2 : Str) (sp : Sp) : Prop where
  ok : ∃ (f : Addr) (fd : FuncData) (ps : List Str) (g : List Value → List Value → List Value) (gV : List V → List V → List V), I.mg x = some (.ref f) ∧ PySem.W.keepIn I.K (.ref f) = true ∧ KBinds I.K fd ps [k1, k2] g gV ∧ (∀ a b, gV [] [a, b] = [b, a]) ∧ FnOk I.prog I.w I.K I.mg I.base CX0 I.k f fd ps sp
section
variable {I : Inf} {c : Ct} {ds : List SD} {e1 e2 : Expr} {P : D → Prop} {pos p q1 q2 : Pos} {d1 d2 : D}
theorem ev_callK2 {x k1 k2 : Str} {Pc : List AD → (D → Prop) → Prop} {R : D → Prop} (hf : FnK2 I x k1 k2 (spD I.K Pc)) (hg : I.sc.names.lookup x = some .globalImplicit)
    (h1 : EvE I c e1 ds (· = d1)) (h2 : EvE I c e2 ds (· = d2)) (hc : Pc [.dat d2, .dat d1] R) (hp : ∀ d, R d → P d)
    (hall : ∀ X, Fits I X → (backToKw pos (keywordEach [⟨some k1, e1, q1⟩, ⟨some k2, e2, q2⟩] X.env)).all (·.1.isSome) = true := by intros; rfl)
    (hks : ∀ X, Fits I X → (backToKw pos (keywordEach [⟨some k1, e1, q1⟩, ⟨some k2, e2, q2⟩] X.env)).filterMap (·.1) = [k1, k2] := by intros; rfl)
    (hdb : (x == ("__debug__" : Str)) = false := by decide)
    (hpl : ∀ X, Fits I X → ((backTo pos (starEach [] X.env)).any (·.1) || (backToKw pos (keywordEach [⟨some k1, e1, q1⟩, ⟨some k2, e2, q2⟩] X.env)).any (·.1.isNone)) = false := by intros; rfl) :
    EvE I c (.Call (.Name x p) [] [⟨some k1, e1, q1⟩, ⟨some k2, e2, q2⟩] pos) ds P := fun X F σ G H s Q k => by
  obtain ⟨f, fd, ps, g, gV, hm, hk, hb, hgV, G0⟩ := hf.ok
  have G1 : FnOk X.prog X.w X.K X.mg X.base CX0 I.k f fd ps (spD I.K Pc) := by rw [F.prog, F.w, F.K, F.mg, F.base]; exact G0
  refine w_pe (pe_callK0 G1 F.room (by show X.env.scope.names.lookup x = _; rw [F.sc]; exact hg) (by rw [F.mg]; exact hm) (by rw [F.K]; exact hk) (by rw [F.K]; exact hb) pass0 (pk_cons pe_w (pk_cons pe_w pk_nil)) (hall X F) (hks X F) hdb (hpl X F)) ?_
  refine h1 X F σ G H s _ fun v1 G1 H1 y1 x1 s1 r1 p1 => h2 X F σ G1 H1 s1 _ fun v2 G2 H2 y2 x2 s2 r2 p2 => ?_
  subst p1; subst p2
  show spD I.K Pc (gV [] [v1, v2]) H2 Q E0
  rw [hgV]
  refine ⟨{ deck := c.Z.deck }, G2, [.dat y2, .dat y1], R, rfl, s2.ex, s2.deck, ⟨v2, _, rfl, r2, v1, _, rfl, Rp.mono x2.g _ r1, rfl⟩, hc, fun v G' H' d t r q => ?_⟩
  obtain ⟨s5, gr⟩ := State.after s2 t rfl (.inr rfl)
  exact k v G' H' d ((x1.trans x2).trans gr) s5 r (hp d q)
end
section
variable {I : Inf} {c : Ct} {ds : List SD} {a b : Expr} {pos p : Pos} {u v r : Int → Prop}
theorem ev_max2 (hg : I.sc.names.lookup ("max" : Str) = some .globalImplicit) (hm : I.mg "max" = none) (ha : EvE I c a ds (IsI u)) (hb : EvE I c b ds (IsI v)) (h : ∀ i j, u i → v j → r (if j > i then j else i))
    (hs1 : ∀ X, Fits I X → starEach [a, b] X.env = (false, eval a X.env) :: starEach [b] X.env := by intros; rfl) (hs2 : ∀ X, Fits I X → starEach [b] X.env = (false, eval b X.env) :: starEach [] X.env := by intros; rfl)
    (hpl : ∀ X, Fits I X → (backTo pos (starEach [b] X.env)).any (·.1) = false := by intros; rfl) : EvE I c (.Call (.Name "max" p) [a, b] [] pos) ds (IsI r) :=
  ev_callB (id := "max") (R := fun l => ∃ i j, l = [.int i, .int j] ∧ u i ∧ v j) (fun X F => call_max2 F.calm) hg hm (by decide +kernel) (ea_consP (R := fun l => ∃ j, l = [.int j] ∧ v j) ha (ea_consP (R := (· = [])) hb ea_nil (fun d l hd hl => by obtain ⟨j, rfl, hj⟩ := hd; subst hl; exact ⟨j, rfl, hj⟩) hs2) (fun d l hd hl => by obtain ⟨i, rfl, hi⟩ := hd; obtain ⟨j, rfl, hj⟩ := hl; exact ⟨i, j, rfl, hi, hj⟩) hs1) (fun l hl σ G H vs s rr Q k => by
    obtain ⟨i, j, rfl, hi, hj⟩ := hl
    obtain ⟨v1, v2, rfl, r1, r2⟩ := rpa2 rr
    rw [r1.int', r2.int']
    exact ⟨i, j, rfl, k.now s .int ⟨_, rfl, h i j hi hj⟩⟩) (he := hs1) (hpl := hpl)
theorem ev_min2 (hg : I.sc.names.lookup ("min" : Str) = some .globalImplicit) (hm : I.mg "min" = none) (ha : EvE I c a ds (IsI u)) (hb : EvE I c b ds (IsI v)) (h : ∀ i j, u i → v j → r (if j < i then j else i))
    (hs1 : ∀ X, Fits I X → starEach [a, b] X.env = (false, eval a X.env) :: starEach [b] X.env := by intros; rfl) (hs2 : ∀ X, Fits I X → starEach [b] X.env = (false, eval b X.env) :: starEach [] X.env := by intros; rfl)
    (hpl : ∀ X, Fits I X → (backTo pos (starEach [b] X.env)).any (·.1) = false := by intros; rfl) : EvE I c (.Call (.Name "min" p) [a, b] [] pos) ds (IsI r) :=
  ev_callB (id := "min") (R := fun l => ∃ i j, l = [.int i, .int j] ∧ u i ∧ v j) (fun X F => call_min2 F.calm) hg hm (by decide +kernel) (ea_consP (R := fun l => ∃ j, l = [.int j] ∧ v j) ha (ea_consP (R := (· = [])) hb ea_nil (fun d l hd hl => by obtain ⟨j, rfl, hj⟩ := hd; subst hl; exact ⟨j, rfl, hj⟩) hs2) (fun d l hd hl => by obtain ⟨i, rfl, hi⟩ := hd; obtain ⟨j, rfl, hj⟩ := hl; exact ⟨i, j, rfl, hi, hj⟩) hs1) (fun l hl σ G H vs s rr Q k => by
    obtain ⟨i, j, rfl, hi, hj⟩ := hl
    obtain ⟨v1, v2, rfl, r1, r2⟩ := rpa2 rr
    rw [r1.int', r2.int']
    exact ⟨i, j, rfl, k.now s .int ⟨_, rfl, h i j hi hj⟩⟩) (he := hs1) (hpl := hpl)
end
end Dl


set_option Elab.async false
set_option maxRecDepth 100000
set_option linter.all false
set_option maxHeartbeats 2000000
/-! sorted, of lists and tuples of data: alike ones, or tuples whose first items decide -/
namespace Dl
open PySem PySem.Spec PyProof.Rows L2 PySem.W
/-- tuples that can be told apart by their first items -/
structure Heads {β : Type} (bs : List β) (enc hd : β → D) : Prop where
  tup : ∀ b, ∃ r, enc b = .tuple (hd b :: r)
  al : ∀ b ∈ bs, ∀ b' ∈ bs, alike (hd b) (hd b') = true
  no : ∀ b ∈ bs, hd b ≠ .none
  one : ∀ b ∈ bs, ∀ b' ∈ bs, PyData.eqv (hd b) (hd b') = true → enc b = enc b'
  self : ∀ b ∈ bs, alike (enc b) (enc b) = true
noncomputable def headKind {β : Type} (h : Heap) (bs : List β) (enc hd : β → D) : PyProof.Rows.KeyKind where
  toKeyOrd := listOrd itemOrd
  keyOf v := open Classical in if q : ∃ b, b ∈ bs ∧ ∃ as, Reads h v (enc b) as then some (keyToks (hd q.choose)) else none
  dflt := ([] : List (Int ⊕ List Nat))
section
variable {β : Type} {h : Heap} {bs : List β} {enc hd : β → D}
theorem head_reads {v : Value} {x : D} {r : List D} {as : List Addr} (q : Reads h v (.tuple (x :: r)) as) : ∃ (a : Addr) (o : Obj) (xs : Array Value) (n : Nat) (f : Value) (fr : List Value) (bs : List Addr), v = .ref a ∧ h.get? a = some o ∧ o.cls = .type "tuple" ∧ o.data = .seq xs n ∧ xs.toList = f :: fr ∧ Reads h f x bs := by
  cases q with
  | @tuple a o xs n _ _ ho hc hd hr =>
    cases q : xs.toList with
    | nil => rw [q] at hr; cases hr
    | cons f fr =>
      rw [q] at hr
      cases hr with
      | cons r1 r2 => exact ⟨a, o, xs, n, f, fr, _, rfl, ho, hc, hd, q, r1⟩
theorem head_unique (H : Heads bs enc hd) {v : Value} {b b' : β} {as as' : List Addr} (hb : b ∈ bs) (hb' : b' ∈ bs) (r : Reads h v (enc b) as) (r' : Reads h v (enc b') as') : hd b = hd b' := by
  obtain ⟨t, e⟩ := H.tup b
  obtain ⟨t', e'⟩ := H.tup b'
  rw [e] at r; rw [e'] at r'
  obtain ⟨a, o, xs, n, f, fr, bs1, h1, h2, h3, h4, h5, h6⟩ := head_reads r
  obtain ⟨a', o', xs', n', f', fr', bs2, k1, k2, k3, k4, k5, k6⟩ := head_reads r'
  rw [h1] at k1; cases k1
  rw [h2] at k2; cases k2
  rw [h4] at k4; cases k4
  rw [h5] at k5; cases k5
  exact alike_unique _ _ _ _ _ (H.al b hb b' hb') h6 k6
theorem headKind_some (H : Heads bs enc hd) {v : Value} {b : β} {as : List Addr} (hb : b ∈ bs) (r : Reads h v (enc b) as) : (headKind h bs enc hd).keyOf v = some (keyToks (hd b)) := by
  have q : ∃ b, b ∈ bs ∧ ∃ as, Reads h v (enc b) as := ⟨b, hb, as, r⟩
  have e : (headKind h bs enc hd).keyOf v = some (keyToks (hd q.choose)) := by
    show (open Classical in if q : ∃ b, b ∈ bs ∧ ∃ as, Reads h v (enc b) as then some (keyToks (hd q.choose)) else none) = _
    rw [dif_pos q]
  obtain ⟨h1, as', h2⟩ := q.choose_spec
  rw [e, head_unique H h1 hb h2 r]
theorem headKind_inv {v : Value} {k : List (Int ⊕ List Nat)} (e : (headKind h bs enc hd).keyOf v = some k) : ∃ b as, b ∈ bs ∧ Reads h v (enc b) as ∧ k = keyToks (hd b) := by
  by_cases q : ∃ b, b ∈ bs ∧ ∃ as, Reads h v (enc b) as
  · have e' : (headKind h bs enc hd).keyOf v = some (keyToks (hd q.choose)) := by
      show (open Classical in if q : ∃ b, b ∈ bs ∧ ∃ as, Reads h v (enc b) as then some (keyToks (hd q.choose)) else none) = _
      rw [dif_pos q]
    obtain ⟨h1, as', h2⟩ := q.choose_spec
    rw [e'] at e
    exact ⟨_, as', h1, h2, (Option.some.inj e).symm⟩
  · have e' : (headKind h bs enc hd).keyOf v = none := by
      show (open Classical in if q : ∃ b, b ∈ bs ∧ ∃ as, Reads h v (enc b) as then some (keyToks (hd q.choose)) else none) = _
      rw [dif_neg q]; rfl
    rw [e'] at e; cases e
end
section
variable {prog : Program} {w : World} {A : Around} {s : Shared} {β : Type} {bs : List β} {enc hd : β → D}
theorem each_heads {h : Heap} (H : ∀ b, ∃ r, enc b = .tuple (hd b :: r)) : ∀ {vs : List Value} {bs : List β}, EachIs (fun v b => ∃ as, Reads h v (enc b) as) vs bs → ∃ fs, KatTups h vs fs ∧ fs.length = vs.length ∧ ∀ f, f ∈ fs → ∃ b as, b ∈ bs ∧ Reads h f (hd b) as
  | _, _, .nil => ⟨[], KatTups.nil, rfl, fun f hf => absurd hf (by simp)⟩
  | _, _, .cons (b := b) ⟨as, r⟩ t => by
    obtain ⟨fs, h1, h2, h3⟩ := each_heads H t
    obtain ⟨tl, e⟩ := H b
    rw [e] at r
    obtain ⟨a, o, xs, n, f, fr, bs1, rfl, ho, hc, hdd, q, r1⟩ := head_reads r
    have hf : xs[0]? = some f := by rw [← Array.getElem?_toList, q]; rfl
    refine ⟨f :: fs, KatTups.cons ho hc hdd hf h1, by rw [List.length_cons, List.length_cons, h2], fun g hg => ?_⟩
    rcases List.mem_cons.mp hg with rfl | hg
    · exact ⟨b, _, List.mem_cons_self .., r1⟩
    · obtain ⟨b', as', m1, m2⟩ := h3 g hg
      exact ⟨b', as', List.mem_cons_of_mem _ m1, m2⟩
theorem sortsAt_heads {vs : List Value} (e : EachIs (fun v b => ∃ as, Reads s.heap v (enc b) as) vs bs) (H : Heads bs enc hd) (hu : ∀ b, b ∈ bs → A.units + (enc b).depth < cLine) : SortsAt prog w A s (headKind s.heap bs enc hd) vs := by
  have room : ∀ {b : β} {d' : D}, b ∈ bs → A.units + min (enc b).depth d'.depth < cLine := fun {d d'} hd => Nat.lt_of_le_of_lt (Nat.add_le_add_left (Nat.min_le_left _ _) _) (hu d hd)
  refine ⟨fun v hv => ?_, ?_⟩
  · obtain ⟨b, hb, as, r⟩ := e.left v hv
    exact ⟨_, headKind_some H hb r⟩
  · cases bs with
    | nil =>
      cases e
      exact ⟨general', fun E x y a b Q ha _ _ => (by
        obtain ⟨d, _, hd, _⟩ := headKind_inv ha
        exact absurd hd (by simp)), fun h2 => absurd h2 (by simp)⟩
    | cons b₀ bs₀ =>
      refine ⟨tuples' (dataType (hd b₀) != Value.type "tuple"), ?_, fun h2 E Q hq => ?_⟩
      · intro E x y a b Q ha hb hq
        obtain ⟨b1, as, hd1, ra, rfl⟩ := headKind_inv ha
        obtain ⟨b2, as', hd2, rb, rfl⟩ := headKind_inv hb
        obtain ⟨r1, e1⟩ := H.tup b1
        obtain ⟨r2, e2⟩ := H.tup b2
        have hal := H.al b1 hd1 b2 hd2
        have hroom : A.units + min (PyData.tuple (hd b1 :: r1)).depth (PyData.tuple (hd b2 :: r2)).depth < cLine := by rw [← e1, ← e2]; exact room hd1
        have hty : (dataType (hd b₀) != Value.type "tuple") = true → ∀ t, hd b1 ≠ .tuple t := fun hbt t => by
          have q := dataType_alike (H.al b1 hd1 b₀ (List.mem_cons_self ..))
          rw [← q] at hbt
          exact dataType_tuple hbt t
        have key : ∀ {fin : Bool} {vs ws : List Value} {cs ds : List Addr}, ReadsAll s.heap vs (hd b1 :: r1) cs → ReadsAll s.heap ws (hd b2 :: r2) ds → fin = decide ((hd b1 :: r1).length < (hd b2 :: r2).length) → A.units + min (PyData.depthAll (hd b1 :: r1)) (PyData.depthAll (hd b2 :: r2)) < cLine →
            KatLex prog w A (dataType (hd b₀) != Value.type "tuple") fin Q (vs.zip ws) 0 s := by
          intro fin vs ws cs ds q1 q2 hf hu2
          cases hx : PyData.eqv (hd b1) (hd b2) with
          | true =>
            have ee := H.one b1 hd1 b2 hd2 hx
            rw [e1, e2] at ee
            injection ee with ee
            have hs := H.self b1 hd1
            rw [e1] at hs
            have hs' : alikeAll (hd b1 :: r1) (hd b1 :: r1) = true := by simpa [alike] using hs
            rw [← ee] at q2 hf hu2
            refine katLex_alike _ _ 0 _ _ _ _ q1 q2 hs' hu2 (fun hb _ x r t ex => ?_) hf ?_
            · obtain ⟨rfl, rfl⟩ := List.cons.inj ex; exact hty hb t
            · have e3 : hd b1 = hd b2 := (List.cons.inj ee).1
              have hq' : Q (PyProof.Rows.lexLt itemOrd (keyToks (hd b1)) (keyToks (hd b2))) s := hq
              rw [← e3, lex_irrefl] at hq'
              rw [lex_irrefl]; exact hq'
          | false =>
            cases q1 with
            | cons p1 p2 =>
              cases q2 with
              | cons p1' p2' =>
                rw [List.zip_cons_cons]
                refine kat_cons (eqAt_alike _ _ A s _ _ _ _ p1 p1' hal (SeqAt.room_head hu2) prog w _ _ ?_)
                rw [hx]
                refine kat_no (oneLt_alike (fun hbi t => ?_) p1 p1' hal (ne_none_of hal hx) (SeqAt.room_head hu2) hq)
                rw [Bool.and_eq_true] at hbi
                exact hty hbi.1 t
        rw [e1] at ra; rw [e2] at rb
        cases ra with
        | @tuple l o xs n _ _ h1 h2 h3 h4 =>
          cases rb with
          | @tuple l' o' xs' n' _ _ k1 k2 k3 k4 =>
            have n1 : xs.size = (hd b1 :: r1).length := by simpa using SeqAt.ReadsAll.length _ _ _ h4
            have n2 : xs'.size = (hd b2 :: r2).length := by simpa using SeqAt.ReadsAll.length _ _ _ k4
            exact kat_lt h1 h3 k1 k3 (key h4 k4 (by rw [n1, n2]) (by have q := SeqAt.room_in hroom; omega))
      · obtain ⟨fs, t1, t2, t3⟩ := each_heads H.tup e
        refine kat_kind (T := dataType (hd b₀)) t1 (by omega) (fun f hf => ?_) (beq_self_eq_true _) hq
        obtain ⟨b, as, m1, m2⟩ := t3 f hf
        rw [← dataType_alike (H.al b m1 b₀ (List.mem_cons_self ..))]
        exact looks_reads m2
end
/-! sorted of a tuple -/
section
variable {prog : Program} {w : World} {A : Around} {E : Value → Shared → Prop} {s : Shared}
theorem collect_tup {l : Addr} {vs : List Value} {Q : List Value → Shared → Prop} (hl : IsTup s.heap l vs.toArray)
    (h : Q vs { s with heap := (s.heap.push (seqObj "list" #[] 0)).update s.heap.objs.size (Obj.mapSeq (· ++ vs.toArray)) }) (hsz : vs.length ≤ sizeLine) :
    wpAny (model prog w) A (collect (.ref l)) Q E s := by
  obtain ⟨o, ho, hc, n, hd⟩ := id hl
  unfold collect
  refine wpAny_bind (wpAny_runValue (codeAny_builtin entry_proto_collect' ?_))
  show wpAny _ _ (do again (.builtin "list.__iadd__" ⟨[← newList [], .ref l], []⟩)) _ _ s
  refine wpAny_bind (wpAny_newList (wpAny_pure ⟨Code.quiet_builtin _ (by decide +kernel), codeAny_builtin entry_list_iadd' ?_⟩))
  show wpAny _ _ (Builtin.List.listExtendWith (.ref s.heap.objs.size) (.ref l) (.ref s.heap.objs.size)) _ _ { s with heap := s.heap.push (seqObj "list" #[] 0) }
  unfold Builtin.List.listExtendWith
  have ho' : (s.heap.push (seqObj "list" #[] 0)).get? l = some o := Heap.get?_push_of_some _ ho
  refine wpAny_bind (wpAny_typeOf (T := "tuple") ⟨o, ho', hc⟩ ?_)
  have ht : (Value.type "tuple" == Value.type "tuple") = true := by rfl
  rw [if_pos (by rw [ht]; simp)]
  refine wpAny_bind (listItems_at ho' hd ?_)
  refine wpAny_bind (listItems_at (xs := #[]) (n := 0) (Heap.get?_push_size _ rfl) rfl ?_)
  rw [if_neg (by simp)]
  refine wpAny_bind (listUpdate_at (xs := #[]) (n := 0) (Heap.get?_push_size _ rfl) rfl ?_ (Nat.zero_le _) (by show (#[] ++ vs.toArray).size ≤ sizeLine + 1; simp only [Array.size_append, List.size_toArray, List.length_nil]; omega))
  refine wpAny_pure ?_
  show wpAny (model prog w) A (do
      let o ← load s.heap.objs.size
      match o.data with
      | .seq xs _ => pure xs.toList
      | _ => unsupported "internal:collect") Q E { s with heap := (s.heap.push (seqObj "list" #[] 0)).update s.heap.objs.size (Obj.mapSeq (· ++ vs.toArray)) }
  refine wpAny_bind (wpAny_load (get?_update_seq (Heap.get?_push_size _ rfl) _) ?_)
  show wpAny _ _ (pure ((#[] : Array Value) ++ vs.toArray).toList) Q E _
  rw [show ((#[] : Array Value) ++ vs.toArray).toList = vs by simp]
  exact wpAny_pure h
theorem sorted_of_sortT {l : Addr} {vs : List Value} {Q : Value → Shared → Prop} (hl : IsTup s.heap l vs.toArray) (hL : vs.length ≤ sizeLine)
    (body : ∀ E' : Value → Shared → Prop, wpAny (model prog w) A.in1.in1 (Builtin.«list.sort» ⟨[.ref (s.heap.objs.size + 1)], []⟩) (fun f s' => f = .done (.ret .none) ∧ Q (.ref (s.heap.objs.size + 1)) s') E' { s with heap := copyHeap s.heap vs }) :
    wpAny (model prog w) A (call (.builtin "sorted") [.ref l]) Q E s := by
  refine call_function_entry_kw kind_sorted plain_sorted entry_sorted (args_sorted1 _) ?_
  unfold Builtin.«sorted»
  refine wpAny_bind (m := checkCount "sorted" 1 1 _) (wpAny_pure ?_)
  refine wpAny_bind (collect_tup hl ?_ hL)
  refine wpAny_bind (wpAny_newList ?_ hL)
  have hsz : ((s.heap.push (seqObj "list" #[] 0)).update s.heap.objs.size (Obj.mapSeq (· ++ vs.toArray))).objs.size = s.heap.objs.size + 1 := by
    rw [Heap.size_update, size_push']
  show wpAny _ _ _ _ _ { s with heap := copyHeap s.heap vs }
  rw [hsz]
  refine wpAny_bind (wpAny_holding (wpAny_call_entry_kw slot_list_sort ⟨_, copyHeap_at s.heap vs, rfl⟩ entry_list_sort ?body (args_list_sort _)))
  case body =>
    show wpAny (model prog w) A.in1.in1 (Builtin.«list.sort» ⟨[.ref (s.heap.objs.size + 1)], []⟩) _ _ _
    refine wpAny_mono (body _) (fun f s' hf => ?_) fun _ _ e => e
    obtain ⟨rfl, hq⟩ := hf
    exact ⟨_, rfl, wpAny_pure ⟨_, rfl, hq⟩⟩
end
/-! over the layer -/
/-- how the items of bs come to be in order, by the signs of their keys -/
inductive InOrder {β : Type} (bs : List β) (enc key : β → D) : Prop where
  | alike (h : AllAlike (bs.map enc)) (k : Sortable (bs.map enc)) (e : key = enc)
  | heads (h : Heads bs enc key)
def ordBy {β : Type} (key : β → D) : β → β → Bool := sortLe (listOrd itemOrd) false fun b => keyToks (key b)
section
variable {X : Cx} {G : Hp}
def RelD {β : Type} (K : Frag) (G : Hp) (enc : β → D) : Value → β → Prop := fun u b => ∃ x, RelV x u ∧ Rp K G (enc b) x
theorem each_of_rpa {K : Frag} {β : Type} {enc : β → D} : ∀ {bs : List β} {xs : List V} {vs : List Value}, RpA K G (bs.map enc) xs → Vals xs vs → EachIs (RelD K G enc) vs bs
  | [], xs, vs, h, r => by
    have : xs = [] := by have := h.length; exact List.eq_nil_of_length_eq_zero this
    subst this; cases r; exact .nil
  | b :: bs, xs, vs, h, r => by
    obtain ⟨v, ws, rfl, h1, h2⟩ := RpA.inv (d := enc b) (ds := bs.map enc) h
    cases r with
    | cons r1 r2 => exact .cons ⟨v, r1, h1⟩ (each_of_rpa h2 r2)
theorem rpa_of_each {K : Frag} {β : Type} {enc : β → D} : ∀ {bs : List β} {vs : List Value}, EachIs (RelD K G enc) vs bs → ∃ xs, Vals xs vs ∧ RpA K G (bs.map enc) xs
  | _, _, .nil => ⟨[], .nil, .nil⟩
  | _, _, .cons ⟨x, r, h⟩ t => by
    obtain ⟨xs, h1, h2⟩ := rpa_of_each t
    exact ⟨x :: xs, .cons r h1, .cons h h2⟩
def rSortD (K : Frag) : List V → Hp → VK → Prop := fun vs H Q => ∃ (a : Addr) (xs : List V) (G : Hp) (β : Type) (bs : List β) (enc key : β → D), vs = [.ref a] ∧ (SqL K H a xs ∨ SqT K H a xs) ∧ Ex G H ∧ RpA K G (bs.map enc) xs ∧ InOrder bs enc key ∧ bs.length ≤ Lm ∧ (∀ b ∈ bs, (enc b).depth ≤ 40) ∧
  ∀ ys p, RpA K G ((bs.mergeSort (ordBy key)).map enc) ys → H p = none → Q (.ref p) (upd H p (.lst ys))
theorem cr_sortD (hu : X.A.units + 64 < cLine) : CallR X (.builtin "sorted") (rSortD X.K) := by
  intro pins s σ H vs us Q I r h
  obtain ⟨a, xs, G, β, bs, enc, key, rfl, hs, ex, hr, ho, hl, hd, q⟩ := h
  rw [Vals.ref1 r]
  have hL : bs.length ≤ sizeLine := Lm_le hl
  have main : ∀ its : List Value, Vals xs its → (∀ κ, SortsAt X.prog X.w X.A.in1.in1 { s with heap := sortingHeap (copyHeap s.heap its) (s.heap.objs.size + 1) its } κ its → EachIs (RelD X.K G enc) (sortVals κ false its its) (bs.mergeSort (ordBy key)) →
      wpAny (model X.prog X.w) X.A (call (.builtin "sorted") [.ref a]) (EP X pins σ Q) X.xe s) → wpAny (model X.prog X.w) X.A (call (.builtin "sorted") [.ref a]) (EP X pins σ Q) X.xe s := by
    intro its rv go
    have e := each_of_rpa hr rv
    have er : EachIs (fun v b => ∃ as, Reads s.heap v (enc b) as) its bs := e.mono fun v b ⟨x, r1, r2⟩ => reads_of I ex _ r2 r1
    have er' : EachIs (fun v b => ∃ as, Reads (sortingHeap (copyHeap s.heap its) (s.heap.objs.size + 1) its) v (enc b) as) its bs := er.mono fun _ _ ⟨as, r⟩ => ⟨as, PyProof.Rows.Reads.keeps (fun _ _ => sorting_copy_old) r⟩
    have hroom : ∀ b, b ∈ bs → X.A.in1.in1.units + (enc b).depth < cLine := fun b hb => by
      have := hd b hb
      show X.A.units + 1 + 1 + _ < _
      omega
    rcases ho with ⟨hal, hk, rfl⟩ | hh
    · exact go (dataKind _ (bs.map key)) (SortsAt.data (s := { s with heap := sortingHeap (copyHeap s.heap its) (s.heap.objs.size + 1) its }) (each_map (R := fun v d => ∃ as, Reads (sortingHeap (copyHeap s.heap its) (s.heap.objs.size + 1) its) v d as) key er') hal hk (bound_map hroom)) (sortVals_data false e er' hal)
    · exact go (headKind _ bs enc key) (sortsAt_heads (s := { s with heap := sortingHeap (copyHeap s.heap its) (s.heap.objs.size + 1) its }) er' hh hroom)
        (sortVals_each (κ := headKind (sortingHeap (copyHeap s.heap its) (s.heap.objs.size + 1) its) bs enc key) (fun b => keyToks (key b)) e ((each_mem er').mono fun v b ⟨⟨as, r⟩, hb⟩ => headKind_some hh hb r))
  have fin : ∀ (its : List Value) (κ : PyProof.Rows.KeyKind), Vals xs its → EachIs (RelD X.K G enc) (sortVals κ false its its) (bs.mergeSort (ordBy key)) → EP X pins σ Q (.ref (s.heap.objs.size + 1)) { s with heap := sortedAll s.heap its (sortVals κ false its its).toArray } := by
    intro its κ rv e
    obtain ⟨ys, y1, y2⟩ := rpa_of_each e
    obtain ⟨ep, he'⟩ := PyProof.Rows.sortedAll_at s.heap its (sortVals κ false its its).toArray
    have hlen : ys.length ≤ sizeLine := by
      rw [y2.length, List.length_map, (List.mergeSort_perm ..).length_eq]; exact hL
    exact ⟨.ref _, upd H (s.heap.objs.size + 1) (.lst ys), I.laid (t' := s.toks) (fun _ _ => PyProof.Rows.sortedAll_old) (Nat.le_succ _) ⟨hlen, _, ep, y1, he'⟩, rfl, q _ _ y2 (I.hok.fresh (Nat.le_succ _))⟩
  rcases hs with hs | hs
  · obtain ⟨its, rv, hli, hz⟩ := I.list hs
    exact main its rv fun κ S e => sorted_vals hli.isList S (by rw [← rv.length]; exact hz) (fin its κ rv e)
  · obtain ⟨its, rv, hli, hz⟩ := I.tuple hs
    exact main its rv fun κ S e => sorted_of_sortT hli (by rw [← rv.length]; exact hz) fun _ => list_sort_vals (s := { s with heap := copyHeap s.heap its }) (copyHeap_at s.heap its) S (by rw [← rv.length]; exact hz) ⟨rfl, fin its κ rv e⟩
end
section
variable {I : Inf} {c : Ct} {ds : List SD} {e : Expr} {pos p : Pos}
/-- sorted(e), e a list or a tuple of data: a fresh list -/
theorem ef_sorted {β : Type} {bs : List β} {enc key : β → D} (hg : I.sc.names.lookup ("sorted" : Str) = some .globalImplicit) (hm : I.mg "sorted" = none) (ho : InOrder bs enc key) (hl : bs.length ≤ Lm) (hd : ∀ b ∈ bs, (enc b).depth ≤ 40) (ha : EvE I c e ds (fun d => d = .list (bs.map enc) ∨ d = .tuple (bs.map enc)))
    (hs : ∀ X, Fits I X → starEach [e] X.env = (false, eval e X.env) :: starEach [] X.env := by intros; rfl) (hpl : ∀ X, Fits I X → (backTo pos (starEach [] X.env)).any (·.1) = false := by intros; rfl) :
    EvF I c (.Call (.Name "sorted" p) [e] [] pos) ds (· = (bs.mergeSort (ordBy key)).map enc) := fun X F σ G H s Q k => by
  have hb : bootBuiltins ("sorted" : Str) = some (.builtin "sorted") := by decide +kernel
  have cr : CallR X (.builtin "sorted") (rSortD I.K) := by have := cr_sortD (X := X) F.room.units; rw [F.K] at this; exact this
  refine w_pe (pe_callB cr (by show X.env.scope.names.lookup _ = _; rw [F.sc]; exact hg) (by rw [F.mg]; exact hm) hb (pa_cons pe_w pa_nil (hs X F)) (by decide) (by decide) (hs X F) (hpl X F)) ?_
  refine ha X F σ G H s _ fun v G1 H1 d x1 s1 r1 p1 => ?_
  obtain ⟨a, xs, rfl, hq, hr⟩ : ∃ a xs, v = V.ref a ∧ (SqL I.K H1 a xs ∨ SqT I.K H1 a xs) ∧ RpA I.K G1 (bs.map enc) xs := by
    rcases p1 with rfl | rfl
    · obtain ⟨a, xs, rfl, h1, _, h3⟩ := r1.lst'
      exact ⟨a, xs, rfl, .inl (SqL.of (s1.ex _ _ h1)), h3⟩
    · obtain ⟨a, xs, rfl, h1, _, h3⟩ := r1.tup'
      exact ⟨a, xs, rfl, .inr (ex_t s1.ex h1), h3⟩
  refine ⟨a, xs, G1, β, bs, enc, key, rfl, hq, s1.ex, hr, ho, hl, hd, fun ys q hy hq0 => ?_⟩
  have hqH : H q = none := by
    cases z : H q with
    | none => rfl
    | some o => exact absurd hq0 (x1.dom q (by rw [z]; exact fun z => nomatch z))
  refine k q ys G1 _ _ (x1.trans ⟨Ex.refl G1, fun b o h _ => Ex.new hq0 b o h, fun b hb => .inl hb, fun b hb => ?_⟩) (s1.aside hq0) hqH (s1.gnone hq0) (s1.ndeck hq0) (by rw [List.length_map, (List.mergeSort_perm ..).length_eq]; exact hl) upd_same hy rfl
  by_cases z : b = q
  · rw [z, upd_same]; exact fun z => nomatch z
  · rw [upd_ne z]; exact hb
end
end Dl


set_option Elab.async false
set_option maxRecDepth 100000
set_option linter.all false
set_option maxHeartbeats 2000000
/-! comprehensions of two clauses; owned lists: pop, extend, truth; a side of two; calls where nothing is written out -/
namespace Dl
open PySem PySem.Spec PyProof.Rows L2
section
variable {I : Inf} {c : Ct} {ds : List SD} {A : After} {a b e : Expr} {P : D → Prop} {pos : Pos} {d : D}
/-! truth of lists -/
theorem et_truO {i : Nat} {x : Str} {l : List D} {p : Pos} (hN : I.N[i]? = some x) (hv : Vis I.sc x) (ho : ds[i]? = some (.own l)) (h1 : (x == ("__debug__" : Str)) = false := by decide) (h2 : (x == ("__classdict__" : Str)) = false := by decide)
    (he : ∀ X, Fits I X → ∀ whole, isTrue (.Name x p) X.env whole = (do let v ← whole; standAt (Expr.Name x p).pos; holding [v] (truthy v)) := by intros; rfl) :
    EvT I c (.Name x p) ds (· = !l.isEmpty) := fun X F σ G H s Q k => by
  refine w_pt (pt_truth (pe_var (i := i) (by rw [F.N]; exact hN) (by rw [F.sc]; exact hv) h1 h2) (he X F)) ?_
  obtain ⟨q, xs, e1, h0, h3, h4, h5, h6, h7⟩ := own_at s ho
  have hl := h7.length
  refine ⟨.ref q, e1, !xs.isEmpty, .inl ⟨xs, SqL.of h6, rfl⟩, ?_⟩
  have e0 : xs.isEmpty = l.isEmpty := by
    cases xs with
    | nil => cases l with | nil => rfl | cons _ _ => simp at hl
    | cons _ _ => cases l with | nil => simp at hl | cons _ _ => rfl
  rw [e0]
  exact k _ G H Gr.refl s rfl
theorem ev_notL {l : List D} (h : EvE I c e ds (· = .list l)) : EvE I c (.UnaryOp .Not e pos) ds (· = .bool l.isEmpty) := fun X F σ G H s Q k => by
  refine w_pe (pe_notT pe_w) (h X F σ G H s _ fun v G1 H1 d x1 s1 r1 p1 => ?_)
  subst p1
  obtain ⟨q, xs, rfl, h1, _, h3⟩ := r1.lst'
  have hl := h3.length
  refine ⟨!xs.isEmpty, .inl ⟨xs, SqL.of (s1.ex _ _ h1), rfl⟩, (k.mono x1).now s1 .bl ?_⟩
  have e0 : xs.isEmpty = l.isEmpty := by
    cases xs with
    | nil => cases l with | nil => rfl | cons _ _ => simp at hl
    | cons _ _ => cases l with | nil => simp at hl | cons _ _ => rfl
  rw [e0]; cases l <;> rfl
/-- y = x.pop(), x an owned list -/
theorem rs_popSet {i iy : Nat} {x y : Str} {l : List D} {p p1 p2 p3 : Pos} (hN : I.N[i]? = some x) (hv : Vis I.sc x) (ho : ds[i]? = some (.own (l ++ [d]))) (hy : Sto I iy y) (hn : A.nx ((ds.set i (.own l)).set iy (.dat d)))
    (h1 : (x == ("__debug__" : Str)) = false := by decide) (h2 : (x == ("__classdict__" : Str)) = false := by decide) (hline : (p2.endLine == p3.line) = true := by rfl)
    (hs : ∀ X, Fits I X → swapsWith (.Call (.Attribute (.Name x p1) ("pop" : Str) p2) [] [] p3) (some (.Name y p)) pos.line X.env = pure false := by intros; rfl)
    (hbase : ∀ X, Fits I X → attributeBase (.Name x p1) ("pop" : Str) X.env (eval (.Name x p1) X.env) = eval (.Name x p1) X.env := by intros; rfl) :
    RunS I c (.Assign [.Name y p] (.Call (.Attribute (.Name x p1) ("pop" : Str) p2) [] [] p3) pos) ds A := fun X F σ G H E s k => by
  refine w_ps (ps_set (i := iy) (by rw [F.N]; exact F.nd) (by rw [F.N]; exact hy.at_) (by rw [F.sc]; exact hy.loc) (pe_bm0 PySem.F.plainAttrs_list PySem.F.slot_list_pop PySem.F.type_list_pop mt_pop (pe_var (i := i) (by rw [F.N]; exact hN) (by rw [F.sc]; exact hv) h1 h2) (hbase X F) hline) (hs X F) (hy.fn F)) ?_
  obtain ⟨q, xs, e1, h0, h3, h4, h5, h6, h7⟩ := own_at s ho
  have hl := h7.length
  rw [List.length_append] at hl h5
  simp only [List.length_singleton] at hl h5
  obtain ⟨v, g1, g2⟩ := h7.get (i := l.length) (d := d) (by rw [List.getElem?_append_right (by omega)]; simp)
  have hd : xs.dropLast = xs.take l.length := by rw [List.dropLast_eq_take]; congr 1; omega
  have ht := h7.take l.length
  rw [List.take_left'] at ht
  · rw [← hd] at ht
    refine ⟨.ref q, e1, .inl ⟨rfl, xs, SqL.of h6⟩, q, xs, v, rfl, rfl, h6, by rw [show xs.length - 1 = l.length by omega]; exact g1, ?_⟩
    have s2 := own_put s ho e1 ht (by omega)
    exact k.nx _ G _ _ (Ex.refl G) (State.set s2 (i := iy) (sd := .dat d) rfl ⟨v, rfl, g2⟩) hn
  · rfl
/-- x.extend(e), e a list -/
theorem rs_extendL {i : Nat} {x : Str} {l : List D} {p p2 p3 p4 : Pos} {PL : List D → Prop} (hN : I.N[i]? = some x) (hv : Vis I.sc x) (ho : ds[i]? = some (.own l)) (h : EvE I c e ds (fun d => ∃ m, d = .list m ∧ PL m)) (hl : ∀ m, PL m → l.length + m.length ≤ Lm) (hn : ∀ m, PL m → A.nx (ds.set i (.own (l ++ m))))
    (h1 : (x == ("__debug__" : Str)) = false := by decide) (h2 : (x == ("__classdict__" : Str)) = false := by decide)
    (hsx : ∀ X, Fits I X → starEach [e] X.env = (false, eval e X.env) :: starEach [] X.env := by intros; rfl) (hline : (p2.endLine == p3.line) = true := by rfl)
    (hfew : ∀ X, Fits I X → ((((backTo p3 (starEach [e] X.env)).all fun x => !x.fst) && (backToKw p3 (keywordEach [] X.env)).all fun x => x.fst.isSome) && decide (([e].length + ([] : List Keyword).length + if ([] : List Keyword).isEmpty = true then 0 else 1) < 30)) = true := by intros; rfl)
    (hse : ∀ X, Fits I X → swapsWith (.Call (.Attribute (.Name x p) ("extend" : Str) p2) [e] [] p3) none p4.line X.env = pure false := by intros; rfl) :
    RunS I c (.Expr (.Call (.Attribute (.Name x p) ("extend" : Str) p2) [e] [] p3) p4) ds A := fun X F σ G H E s k => by
  have go : PE X (.Call (.Attribute (.Name x p) ("extend" : Str) p2) [e] [] p3) _ := pe_bm PySem.F.plainAttrs_list PySem.F.slot_list_extend PySem.F.type_list_extend mt_extend (pe_var (i := i) (by rw [F.N]; exact hN) (by rw [F.sc]; exact hv) h1 h2) (pa_cons (pe_w (e := e)) pa_nil (hsx X F)) (hfew := hfew X F) (hline := hline) (hs := hsx X F)
  refine w_ps (ps_expr go (hse X F)) ?_
  obtain ⟨q, xs, e1, h0, h3, h4, h5, h6, h7⟩ := own_at s ho
  refine ⟨.ref q, e1, .inl ⟨rfl, xs, SqL.of h6⟩, h X F σ G H s _ fun v G1 H1 d x1 s1 r1 p1 => ?_⟩
  obtain ⟨m, rfl, hm⟩ := p1
  obtain ⟨ys, g1, g2, g3⟩ := own_same s s1 ho e1
  obtain ⟨a, zs, rfl, t1, t2, t3⟩ := r1.lst'
  have hlen := hl m hm
  refine ⟨q, a, ys, zs, rfl, rfl, g1, s1.ex _ _ t1, by rw [g2.length, t3.length]; exact Nat.le_of_lt (Lm_lt hlen), ?_⟩
  exact k.nx σ G1 _ _ x1.g (own_put s1 ho e1 (g2.append t3) (by rw [List.length_append]; exact hlen)) (hn m hm)
/-- s = x if t else y, both owned; s.append(z) -/
theorem run_side {i j m n : Nat} {x y sd z : Str} {l r : List D} {t : Expr} {PT : Bool → Prop} {rest : List Stmt} {p1 p2 p3 p4 p5 q1 q2 q3 q4 q5 : Pos} (hNx : I.N[i]? = some x) (hvx : Vis I.sc x) (hox : ds[i]? = some (.own l)) (hNy : I.N[j]? = some y) (hvy : Vis I.sc y) (hoy : ds[j]? = some (.own r))
    (hS : Sto I m sd) (hvs : Vis I.sc sd) (hm : m < ds.length) (hNz : I.N[n]? = some z) (hvz : Vis I.sc z) (hdz : ds[n]? = some (.dat d)) (him : i ≠ m) (hjm : j ≠ m) (hnm : n ≠ m) (hl : l.length < Lm) (hr : r.length < Lm)
    (ht : EvT I c t ds PT) (h1 : PT true → Run I c rest ((ds.set m .un).set i (.own (l ++ [d]))) A) (h2 : PT false → Run I c rest ((ds.set m .un).set j (.own (r ++ [d]))) A)
    (a1 : (x == ("__debug__" : Str)) = false := by decide) (a2 : (x == ("__classdict__" : Str)) = false := by decide) (b1 : (y == ("__debug__" : Str)) = false := by decide) (b2 : (y == ("__classdict__" : Str)) = false := by decide)
    (c1 : (sd == ("__debug__" : Str)) = false := by decide) (c2 : (sd == ("__classdict__" : Str)) = false := by decide) (d1 : (z == ("__debug__" : Str)) = false := by decide) (d2 : (z == ("__classdict__" : Str)) = false := by decide)
    (hsw : ∀ X, Fits I X → swapsWith (.IfExp t (.Name x p1) (.Name y p2) p3) (some (.Name sd p4)) p5.line X.env = pure false := by intros; rfl) (hline : (q2.endLine == q4.line) = true := by rfl)
    (hse : ∀ X, Fits I X → swapsWith (.Call (.Attribute (.Name sd q1) ("append" : Str) q2) [.Name z q3] [] q4) none q5.line X.env = pure false := by intros; rfl) :
    Run I c (.Assign [.Name sd p4] (.IfExp t (.Name x p1) (.Name y p2) p3) p5 :: .Expr (.Call (.Attribute (.Name sd q1) ("append" : Str) q2) [.Name z q3] [] q4) q5 :: rest) ds A := fun X F σ G H E s k => by
  have hND : X.N.Nodup := by rw [F.N]; exact F.nd
  have var : ∀ {i : Nat} {x : Str} {p : Pos}, I.N[i]? = some x → Vis I.sc x → (x == ("__debug__" : Str)) = false → (x == ("__classdict__" : Str)) = false → PE X (.Name x p) (tVar i) := fun {i x p} u1 u2 u3 u4 => pe_var (i := i) (by rw [F.N]; exact u1) (by rw [F.sc]; exact u2) u3 u4
  refine w_pss (pss_cons (ps_set (i := m) hND (by rw [F.N]; exact hS.at_) (by rw [F.sc]; exact hS.loc) (pe_ifExp pt_w (var hNx hvx a1 a2) (var hNy hvy b1 b2)) (hsw X F) (hS.fn F))
    (pss_cons (ps_expr (pe_bm PySem.F.plainAttrs_list PySem.F.slot_list_append PySem.F.type_list_append mt_append (var hS.at_ hvs c1 c2) (pa_cons (var hNz hvz d1 d2) pa_nil) (hline := hline)) (hse X F)) pss_w)) ?_
  refine ht X F σ G H s _ fun b' G1 H1 x1 s1 p1 => ?_
  have hms : m < σ.length := by rw [s1.len]; exact hm
  have fin : ∀ {u : Nat} {lu : List D}, ds[u]? = some (.own lu) → u ≠ m → lu.length < Lm → (Run I c rest ((ds.set m .un).set u (.own (lu ++ [d]))) A) → ∃ v, σ[u]? = some (some v) ∧ gName m v σ H1 (fun σ2 H2 => ∃ v2, σ2[m]? = some (some v2) ∧ ((v2 = v ∧ (∃ q, v = .ref q) ∧ ∀ q, v = .ref q → ∃ xs, H2 q = some (.lst xs) ∧ xs.length < sizeLine ∧ ∃ w, σ2[n]? = some (some w) ∧ wSs X rest E σ2 (upd H2 q (.lst (xs ++ [w])))))) := by
    intro u lu hu hum hul hrun
    obtain ⟨q, xs, e1, h0, h3, h4, h5, h6, h7⟩ := own_at s1 hu
    refine ⟨.ref q, e1, ?_⟩
    refine ⟨.ref q, by rw [List.getElem?_set_self hms], rfl, ⟨q, rfl⟩, fun q' hq' => ?_⟩
    cases hq'
    obtain ⟨w, w1, w2⟩ := s1.slots n _ hdz
    have w1' : σ[n]? = some (some w) := by
      cases zz : σ[n]? with
      | none => rw [zz] at w1; cases w1
      | some o => rw [zz] at w1; simpa using w1
    refine ⟨xs, h6, by rw [h7.length]; exact Lm_lt (Nat.le_of_lt hul), w, by rw [List.getElem?_set_ne (Ne.symm hnm)]; exact w1', ?_⟩
    have s2 : S I c G1 H1 (σ.set m (some (.ref q))) (ds.set m .un) := State.set s1 (i := m) (v := .ref q) (sd := .un) rfl trivial
    have s3 := own_put (l' := lu ++ [d]) s2 (by rw [List.getElem?_set_ne (Ne.symm hum)]; exact hu) (by rw [List.getElem?_set_ne (Ne.symm hum)]; exact e1) (h7.append (.cons w2 .nil)) (by rw [List.length_append]; exact hul)
    exact hrun X F _ G1 _ E s3 (k.mono x1.g)
  cases b' with
  | true =>
    refine iteT ?_
    obtain ⟨v, v1, v2, v3, rfl, ⟨q, rfl⟩, v4⟩ := fin hox him hl (h1 p1)
    obtain ⟨xs, g1, g2, w, g3, g4⟩ := v4 q rfl
    exact ⟨_, v1, _, v3, .inl ⟨rfl, xs, SqL.of g1⟩, w, g3, q, xs, w, rfl, rfl, g1, g2, g4⟩
  | false =>
    refine iteF ?_
    obtain ⟨v, v1, v2, v3, rfl, ⟨q, rfl⟩, v4⟩ := fin hoy hjm hr (h2 p1)
    obtain ⟨xs, g1, g2, w, g3, g4⟩ := v4 q rfl
    exact ⟨_, v1, _, v3, .inl ⟨rfl, xs, SqL.of g1⟩, w, g3, q, xs, w, rfl, rfl, g1, g2, g4⟩
/-- t < u, of tuples of ints -/
theorem et_ltT {ns ms : List Int} (ha : EvE I c a ds (· = .tuple (ns.map PyData.int))) (hb : EvE I c b ds (· = .tuple (ms.map PyData.int))) : EvT I c (.Compare a [.Lt] [b] pos) ds (· = HT.lexLt ns ms) :=
  et_cmp (r := rLtT I.K) (fun X F => by have := op_ltT (X := X) (Nat.lt_of_le_of_lt (Nat.le_add_right _ _) F.room.units); rw [F.K] at this; exact this) (nobehind _ (by decide) (by decide)) ha hb fun d e hi hj σ G H x y s rx ry Q k => by
    rw [hi] at rx; rw [hj] at ry
    obtain ⟨a1, xs, rfl, h1, _, r1⟩ := rx.tup'
    obtain ⟨a2, ys, rfl, h2, _, r2⟩ := ry.tup'
    rw [RpA.ints] at r1 r2
    subst r1; subst r2
    exact ⟨a1, a2, ns, ms, rfl, rfl, ex_t s.ex h1, ex_t s.ex h2, k.now s .bl rfl⟩
/-- l.index(x), of data -/
theorem ev_indexD {l : List D} {j : Nat} {z : D} {p2 p3 : Pos} (ha : EvE I c a ds (· = .list l)) (hb : EvE I c b ds (· = d)) (sl : SeqAt.shaped (.list l) = true) (sd : SeqAt.shaped d = true) (hz : l[j]? = some z) (hzj : PyData.eqv z d = true) (hno : ∀ (m : Nat) (z' : D), m < j → l[m]? = some z' → PyData.eqv z' d = false)
    (hbase : ∀ X, Fits I X → attributeBase a ("index" : Str) X.env (eval a X.env) = eval a X.env := by intros; rfl)
    (hfew : ∀ X, Fits I X → (((backTo p3 (starEach [b] X.env)).all fun x => !x.1) && (backToKw p3 (keywordEach [] X.env)).all (fun x => x.1.isSome) && decide ([b].length + ([] : List Keyword).length + (if ([] : List Keyword).isEmpty then 0 else 1) < 30)) = true := by intros; rfl)
    (hline : (p2.endLine == p3.line) = true := by rfl) (hs : ∀ X, Fits I X → starEach [b] X.env = (false, eval b X.env) :: starEach [] X.env := by intros; rfl) :
    EvE I c (.Call (.Attribute a ("index" : Str) p2) [b] [] p3) ds (· = .int (j : Nat)) := fun X F σ G H s Q k => by
  refine w_pe (pe_bm PySem.F.plainAttrs_list PySem.F.slot_list_index (by with_unfolding_all rfl) (mt_indexD (by have := F.room.un; omega)) (pe_w (e := a)) (pa_cons (pe_w (e := b)) pa_nil (hs X F)) (hbase := hbase X F) (hfew := hfew X F) (hline := hline) (hs := hs X F)) ?_
  refine ha X F σ G H s _ fun v G1 H1 d' x1 s1 r1 p1 => ?_
  subst p1
  obtain ⟨q, xs, rfl, h1, h2, h3⟩ := r1.lst'
  refine ⟨.inl ⟨rfl, _, SqL.of (s1.ex _ _ h1)⟩, hb X F σ G1 H1 s1 _ fun w G2 H2 d2 x2 s2 r2 p2 => ?_⟩
  subst p2
  refine ⟨q, w, d2, l, j, z, rfl, rfl, by rw [F.K]; exact Rp.dp s2.ex _ (r1.mono x2.g), by rw [F.K]; exact Rp.dp s2.ex _ r2, sl, sd, hz, hzj, hno, (k.mono (x1.trans x2)).now s2 .int rfl⟩
end

/-! ### comprehensions of two clauses -/
section
variable {I : Inf} {c : Ct} {ds : List SD} {pos : Pos} {A : After}
/-- a walk for all that fits, for one of many outer items -/
def uI2 {I : Inf} {c : Ct} {tg iter : Expr} {items : List D} {dsO : D → List SD} {PO : D → List D → Prop} (hw : ∀ d ∈ items, Walk I c tg iter (dsO d) (PO d)) : TI := fun σ H R => ∃ d, ∃ hd : d ∈ items, ∀ (Y : Cx) (F : Fits I Y), (hw d hd Y F).choose σ H R
theorem pi_u {I : Inf} {c : Ct} {tg iter : Expr} {items : List D} {dsO : D → List SD} {PO : D → List D → Prop} (hw : ∀ d ∈ items, Walk I c tg iter (dsO d) (PO d)) {Y : Cx} (F : Fits I Y) : PI Y tg iter (uI2 hw) :=
  ⟨fun pins s σ H R J h => by
    obtain ⟨d, hd, q⟩ := h
    exact ((hw d hd Y F).choose_spec.1).run pins s σ H R J (q Y F)⟩
theorem lc2_read {elt tg1 iter1 : Expr} {scope : Scope} (own : List (Str × Nat)) (vs1 : List Nat) {asg asg1 : D → List (Nat × D) → Prop} {items : List D} (f : D → List D) (g : D → D → D) {wi : TI} {tgt tgt1 : TG} {asO : D → List (Nat × D)}
    {X : Cx} (F : Fits I X) (qi : ∀ σ G H, S I c G H σ ds → ∀ R : It → Hp → Prop, (∀ J G' H' its, Gr c.Z G H G' H' → S I c G' H' σ ds → Yields I.K J G' its → its = items → R J H') → wi σ H R)
    (qg : ∀ (c : Ct) (σ : L2.St) (G H : Hp) (ds : List SD) (v : V) (d : D) (as : List (Nat × D)), S (I.blk scope) c G H σ ds → Rp (I.blk scope).K G d v → asg d as → ∀ Q : L2.St → Hp → Prop,
      (∀ σ2, S (I.blk scope) c G H σ2 (setDs ds as) → (∀ vs, (∀ q ∈ as, q.1 ∈ vs) → L2.wipe σ2 vs = L2.wipe σ vs) → (∀ p, NoOwn σ ds p → NoOwn σ2 (setDs ds as) p) → Q σ2 H) → tgt v σ H Q)
    (qg1 : ∀ (c : Ct) (σ : L2.St) (G H : Hp) (ds : List SD) (v : V) (d : D) (as : List (Nat × D)), S (I.blk scope) c G H σ ds → Rp (I.blk scope).K G d v → asg1 d as → ∀ Q : L2.St → Hp → Prop,
      (∀ σ2, S (I.blk scope) c G H σ2 (setDs ds as) → (∀ vs, (∀ q ∈ as, q.1 ∈ vs) → L2.wipe σ2 vs = L2.wipe σ vs) → (∀ p, NoOwn σ ds p → NoOwn σ2 (setDs ds as) p) → Q σ2 H) → tgt1 v σ H Q)
    (hlen : (items.flatMap fun d => (f d).map (g d)).length ≤ Lm)
    (ha : ∀ d ∈ items, asg d (asO d) ∧ ∀ q ∈ asO d, q.1 ∈ own.map (fun x : Str × Nat => x.2))
    (hw1 : ∀ d ∈ items, Walk (I.blk scope) c tg1 iter1 (setDs (wipeDs ds (own.map (fun x : Str × Nat => x.2))) (asO d)) (· = f d))
    (he : ∀ d ∈ items, ∀ e ∈ f d, ∃ as1, asg1 e as1 ∧ (∀ q ∈ as1, q.1 ∈ vs1) ∧ EvE (I.blk scope) c elt (setDs (wipeDs (setDs (wipeDs ds (own.map (fun x : Str × Nat => x.2))) (asO d)) vs1) as1) (· = g d e))
    (σ : L2.St) (G H : Hp) (s : S I c G H σ ds) (Q : VK)
    (k : ∀ p xs G' H' l, Gr c.Z G H G' H' → S I c G' H' σ ds → H p = none → G' p = none → ¬ inDeck c.Z p → l.length ≤ Lm → H' p = some (.lst xs) → RpA I.K G' l xs → l = (items.flatMap fun d => (f d).map (g d)) → Q (.ref p) H') :
    tLc2 wi tgt (uI (I.blk scope) []) (uI2 hw1) tgt1 (uI (I.blk scope) []) (uE (I.blk scope) elt) (own.map (fun x : Str × Nat => x.2)) vs1 σ H Q := by
  refine qi σ G H s _ fun J G1 H1 its x1 s1 y pl => fun L nL => ?_
  subst pl
  have hL0 : H L = none := by
    cases e : H L with
    | none => rfl
    | some o => exact absurd nL (x1.dom L (by rw [e]; exact fun z => nomatch z))
  have no : NoOwn σ ds L := s1.noOwn nL
  have ndk : ¬ inDeck c.Z L := S.ndeck s1 nL
  have h00 : c.H0 L = none := S.h0none s1 nL
  have gL : G1 L = none := S.gnone s1 nL
  have ntI : ∀ {Z : Cx} (FZ : Fits (I.blk scope) Z) {σ' : L2.St} {H' : Hp} {R : Bool → Hp → Prop}, R true H' → wI Z [] σ' H' R := fun {Z} FZ {σ' H' R} h pins sh J => (pts_nil (X := Z)).run pins sh σ' H' R J h
  refine ⟨fun i m H' => m = its.length - i ∧ i ≤ its.length ∧ ∃ G' acc, Gr c.Z G1 H1 G' H' ∧ S I c G' H' σ ds ∧ G' L = none ∧ H' L = some (.lst acc) ∧ RpA I.K G' ((its.take i).flatMap fun d => (f d).map (g d)) acc,
    ⟨its.length, rfl, Nat.zero_le _, G1, [], ⟨Ex.refl _, fun a o h z => by rw [upd_ne (ne_of_none h nL)]; exact h, fun p h => .inl h, fun p h z => ?_⟩, State.aside s1 nL, gL, upd_same, by simp; exact .nil⟩, ?_⟩
  · by_cases e : p = L
    · rw [e, upd_same] at z; cases z
    · rw [upd_ne e] at z; exact h z
  rintro i m H' ⟨rfl, hile, G', acc, gr, s', hgL, hHL, ra⟩
  obtain ⟨ya, yb⟩ := y c.Z c.G0 c.H0 σ ds G' H' gr.g s'
  -- what stays of L
  have keepL : ∀ {Ga Ha Gb Hb : Hp} {ac : List V}, Gr c.Z Ga Ha Gb Hb → Ga L = none → Ha L = some (.lst ac) → Gb L = none ∧ Hb L = some (.lst ac) := by
    intro Ga Ha Gb Hb ac gr h1 h2
    refine ⟨?_, gr.h _ _ h2 ndk⟩
    cases e : Gb L with
    | none => rfl
    | some o =>
      rcases gr.nw L (by rw [e]; exact fun z => nomatch z) with z | z
      · exact absurd h1 z
      · rw [h2] at z; cases z
  by_cases hlt : i < its.length
  · have hd' : its[i]? = some its[i] := by simp [hlt]
    obtain ⟨go, yl⟩ := ya i _ hd'
    refine .inr ⟨go, fun H2 => ∃ G' acc, Gr c.Z G1 H1 G' H2 ∧ S I c G' H2 σ ds ∧ G' L = none ∧ H2 L = some (.lst acc) ∧ RpA I.K G' ((its.take (i + 1)).flatMap fun d => (f d).map (g d)) acc, fun H2 q => ⟨its.length - (i + 1), by omega, rfl, hlt, q⟩, fun v H2 hy => ?_⟩
    obtain ⟨G2, gr2, s2, r2⟩ := yl v H2 hy
    have hmem : its[i] ∈ its := by simp
    obtain ⟨ha1, hin⟩ := ha its[i] hmem
    have htk : its.take (i + 1) = its.take i ++ [its[i]] := by rw [List.take_add_one, hd']; rfl
    obtain ⟨gL2, hL2⟩ := keepL gr2 hgL hHL
    have sw : S (I.blk scope) c G2 H2 (L2.wipe σ (own.map (fun x : Str × Nat => x.2))) (wipeDs ds (own.map (fun x : Str × Nat => x.2))) := State.wipe s2 (own.map (fun x : Str × Nat => x.2))
    have wkey : ∀ (σ : L2.St) (vs : List Nat), ∀ us : List Nat, (∀ u ∈ us, u ∈ vs) → L2.wipe (L2.wipe σ us) vs = L2.wipe σ vs := by
      intro σ vs us
      induction us with
      | nil => intro _; rfl
      | cons u us ih =>
        intro hu
        show L2.wipe ((L2.wipe σ us).set u none) vs = _
        rw [wipe_set (hu u (by simp)), ih (fun w hw => hu w (by simp [hw]))]
    refine qg c (L2.wipe σ (own.map (fun x : Str × Nat => x.2))) G2 H2 (wipeDs ds (own.map (fun x : Str × Nat => x.2))) v its[i] (asO its[i]) sw r2 ha1 _ fun σ3 s3 hwp hno => ?_
    refine ⟨(hwp (own.map (fun x : Str × Nat => x.2)) hin).trans (wkey σ _ _ (fun u hu => hu)), fun Y FY => ntI FY (iteT ?_)⟩
    have no3 : NoOwn σ3 (setDs (wipeDs ds (own.map (fun x : Str × Nat => x.2))) (asO its[i])) L := hno L (no.wipe _)
    -- the inner walk
    have tri : ∀ R : It → Hp → Prop, (∀ J G' H' l, Gr c.Z G2 H2 G' H' → S (I.blk scope) c G' H' σ3 (setDs (wipeDs ds (own.map (fun x : Str × Nat => x.2))) (asO its[i])) → Yields I.K J G' l → l = f its[i] → R J H') → uI2 hw1 σ3 H2 R := by
      intro R hR
      refine ⟨its[i], hmem, fun Y FY => ?_⟩
      exact (hw1 its[i] hmem Y FY).choose_spec.2 σ3 G2 H2 s3 R hR
    refine tri _ fun J1 G4 H4 l1 gr4 s4 y1 e1 => ?_
    subst e1
    obtain ⟨gL4, hL4⟩ := keepL gr4 gL2 hL2
    have gr04 := (gr.trans gr2).trans gr4
    have s40 : S I c G4 H4 σ ds := s2.regrow s4 gr4
    refine ⟨fun j m H' => m = (f its[i]).length - j ∧ j ≤ (f its[i]).length ∧ ∃ G' acc, Ex G4 G' ∧ Gr c.Z G1 H1 G' H' ∧ S I c G' H' σ ds ∧ S (I.blk scope) c G' H' σ3 (setDs (wipeDs ds (own.map (fun x : Str × Nat => x.2))) (asO its[i])) ∧ G' L = none ∧ H' L = some (.lst acc) ∧ RpA I.K G' (((its.take i).flatMap fun d => (f d).map (g d)) ++ ((f its[i]).take j).map (g its[i])) acc,
      ⟨_, rfl, Nat.zero_le _, G4, acc, Ex.refl _, gr04, s40, s4, gL4, hL4, by simp; exact (ra.mono (gr2.g.trans gr4.g))⟩, ?_⟩
    rintro j m H5 ⟨rfl, hjle, G5, acc5, ex5, gr5, s5, t5, gL5, hL5, ra5⟩
    obtain ⟨ya1, yb1⟩ := y1 c.Z c.G0 c.H0 σ3 _ G5 H5 ex5 t5
    by_cases hjt : j < (f its[i]).length
    · have hej : (f its[i])[j]? = some (f its[i])[j] := by simp [hjt]
      obtain ⟨go1, yl1⟩ := ya1 j _ hej
      refine .inr ⟨go1, fun H' => ∃ G' acc, Ex G4 G' ∧ Gr c.Z G1 H1 G' H' ∧ S I c G' H' σ ds ∧ S (I.blk scope) c G' H' σ3 (setDs (wipeDs ds (own.map (fun x : Str × Nat => x.2))) (asO its[i])) ∧ G' L = none ∧ H' L = some (.lst acc) ∧ RpA I.K G' (((its.take i).flatMap fun d => (f d).map (g d)) ++ ((f its[i]).take (j + 1)).map (g its[i])) acc, fun H' q => ⟨_, by omega, rfl, hjt, q⟩, fun v1 H6 hy1 => ?_⟩
      obtain ⟨G6, gr6, s6, r6⟩ := yl1 v1 H6 hy1
      obtain ⟨gL6, hL6⟩ := keepL gr6 gL5 hL5
      obtain ⟨as1, ha1, hin1, hel⟩ := he its[i] hmem (f its[i])[j] (by simp)
      have sw6 : S (I.blk scope) c G6 H6 (L2.wipe σ3 vs1) (wipeDs (setDs (wipeDs ds (own.map (fun x : Str × Nat => x.2))) (asO its[i])) vs1) := State.wipe s6 vs1
      refine qg1 c _ G6 H6 _ v1 _ as1 sw6 r6 ha1 _ fun σ7 s7 hwp7 hno7 => ?_
      refine ⟨(hwp7 vs1 hin1).trans (wkey σ3 _ _ (fun u hu => hu)), fun Y FY => ntI FY (iteT (fun Y FY => hel Y FY σ7 G6 H6 s7 _ fun z G8 H8 t gr8 s8 r8 p8 => ?_))⟩
      obtain ⟨gL8, hL8⟩ := keepL gr8 gL6 hL6
      have u8 : S I c G8 H8 σ ds := s5.regrow s8 (gr6.trans gr8)
      have t8 : S (I.blk scope) c G8 H8 σ3 (setDs (wipeDs ds (own.map (fun x : Str × Nat => x.2))) (asO its[i])) := s6.regrow s8 gr8
      have hacc := ra5.length
      have hle : ((((its.take i).flatMap fun d => (f d).map (g d)) ++ ((f its[i]).take j).map (g its[i])) ++ [g its[i] (f its[i])[j]]).length ≤ Lm := by
        refine Nat.le_trans ?_ hlen
        have e1 : its = its.take i ++ (its[i] :: its.drop (i + 1)) := by rw [← List.drop_eq_getElem_cons hlt, List.take_append_drop]
        have e2 : (its.flatMap fun d => (f d).map (g d)).length = ((its.take i).flatMap fun d => (f d).map (g d)).length + ((f its[i]).length + ((its.drop (i + 1)).flatMap fun d => (f d).map (g d)).length) := by
          conv => lhs; rw [e1]
          rw [List.flatMap_append, List.flatMap_cons, List.length_append, List.length_append, List.length_map]
        rw [e2, List.length_append, List.length_append, List.length_map, List.length_take, List.length_singleton]
        omega
      rw [List.length_append, List.length_singleton] at hle
      refine ⟨acc5, hL8, by rw [hacc]; exact Lm_lt (Nat.le_of_succ_le hle), G8, acc5 ++ [z], ex5.trans (gr6.g.trans gr8.g), ?_, u8.poke gL8 ndk h00 no, State.poke t8 gL8 ndk h00 no3, gL8, upd_same, ?_⟩
      · have g8 := (gr5.trans gr6).trans gr8
        refine ⟨g8.g, fun a o h z' => ?_, g8.nw, fun p h z' => ?_⟩
        · have : a ≠ L := by
            rintro rfl
            rw [nL] at h; cases h
          rw [upd_ne this]; exact g8.h a o h z'
        · by_cases e : p = L
          · rw [e, upd_same] at z'; cases z'
          · rw [upd_ne e] at z'; exact g8.dom p h z'
      · subst p8
        have e9 : (f its[i]).take (j + 1) = (f its[i]).take j ++ [(f its[i])[j]] := by rw [List.take_add_one, hej]; rfl
        rw [e9, List.map_append, ← List.append_assoc]
        exact (ra5.mono (gr6.g.trans gr8.g)).append (.cons r8 .nil)
    · have e : j = (f its[i]).length := by omega
      subst e
      refine .inl ⟨yb1, G5, acc5, gr5, s5, gL5, hL5, ?_⟩
      rw [htk, List.flatMap_append, List.flatMap_cons, List.flatMap_nil, List.append_nil]
      rw [List.take_length] at ra5; exact ra5
  · have e : i = its.length := by omega
    subst e
    rw [List.take_length] at ra
    exact .inl ⟨yb, k L acc G' H' _ (x1.trans gr) s' hL0 hgL ndk hlen hHL ra rfl⟩
/-- y = [elt for tg in iter for tg1 in iter1] on one line, y a plain local -/
theorem rs_setLc2 {i : Nat} {y : Str} {py : Pos} {elt tg iter tg1 iter1 : Expr} {scope : Scope} {spos : Pos} (own : List (Str × Nat)) (vs1 : List Nat) {asg asg1 : D → List (Nat × D) → Prop} {items : List D} (f : D → List D) (g : D → D → D) (asO : D → List (Nat × D))
    (hN : I.N[i]? = some y) (hyl : I.sc.names.lookup y = some .local) (hl1 : (py.line == pos.line) = true) (hny : (scope.names.any fun (n, k) => n == y && (k == .local || k == .cell)) = false)
    (hb : blkC I.N I.sc scope own = true) (hv : ∀ i ∈ vs1, i ∈ own.map (fun x : Str × Nat => x.2)) (hw : Walk I c tg iter ds (· = items)) (ht : TgE (I.blk scope) tg asg) (ht1 : TgE (I.blk scope) tg1 asg1) (hlen : (items.flatMap fun d => (f d).map (g d)).length ≤ Lm)
    (ha : ∀ d ∈ items, asg d (asO d) ∧ ∀ q ∈ asO d, q.1 ∈ own.map (fun x : Str × Nat => x.2))
    (hw1 : ∀ d ∈ items, Walk (I.blk scope) c tg1 iter1 (setDs (wipeDs ds (own.map (fun x : Str × Nat => x.2))) (asO d)) (· = f d))
    (he : ∀ d ∈ items, ∀ e ∈ f d, ∃ as1, asg1 e as1 ∧ (∀ q ∈ as1, q.1 ∈ vs1) ∧ EvE (I.blk scope) c elt (setDs (wipeDs (setDs (wipeDs ds (own.map (fun x : Str × Nat => x.2))) (asO d)) vs1) as1) (· = g d e))
    (hn : A.nx (ds.set i (.dat (.list (items.flatMap fun d => (f d).map (g d))))))
    (hs : ∀ X, Fits I X → ∀ x, foldedSetIterable iter X.env x = pure x := by intros; rfl) (hs1 : ∀ (env : Env) x, foldedSetIterable iter1 env x = pure x := by intros; rfl) :
    RunS I c (.Assign [.Name y py] (.ListComp elt [⟨tg, iter, [], 0⟩, ⟨tg1, iter1, [], 0⟩] scope pos) spos) ds A := fun X F σ G H E s k => by
  obtain ⟨wi, hi, qi⟩ := hw X F
  obtain ⟨tgt, hg, qg⟩ := ht
  obtain ⟨tgt1, hg1, qg1⟩ := ht1
  have hk : scope.kind = .function := (blkOk_by hb).kind
  have key : tLc2 wi tgt (uI (I.blk scope) []) (uI2 hw1) tgt1 (uI (I.blk scope) []) (uE (I.blk scope) elt) (own.map (fun x : Str × Nat => x.2)) vs1 σ H (fun v H1 => gName i v σ H1 E.nx) :=
    lc2_read own vs1 f g F qi qg qg1 hlen ha hw1 he σ G H s (fun v H1 => gName i v σ H1 E.nx) (fun p xs G1 H1 l x1 s1 np hgp hd hll hh r1 el => by
      have no := s.noOwn np
      have s2 : S I c (upd G1 p (.lst xs)) H1 σ ds := State.know s1 hh hgp hd (.inl (S.h0none s np)) no
      subst el
      exact k.nx _ (upd G1 p (.lst xs)) H1 _ (x1.g.trans (Ex.new hgp)) (State.set s2 (i := i) (sd := .dat (.list _)) rfl ⟨_, rfl, .lst upd_same hll (r1.mono (Ex.new hgp))⟩) hn)
  exact w_ps (ps_setLc2 (own := own) (vs1 := vs1) F.calm (by rw [F.N]; exact F.nd) (by rw [F.N]; exact hN) (by rw [F.sc]; exact hyl) (sw_true (by rw [F.sc]; exact F.kind) (by rw [F.sc]; exact hyl) hl1 hny) hi (by rw [F.N, F.sc]; exact blkOk_by hb) hv
    (fun s H C cl fp => hg _ (F.blk hk s H C cl fp)) (fun s H C cl fp => pts_u (F.blk hk s H C cl fp)) (fun s H C cl fp => pi_u hw1 (F.blk hk s H C cl fp)) (fun s H C cl fp => hg1 _ (F.blk hk s H C cl fp)) (fun s H C cl fp => pts_u (F.blk hk s H C cl fp)) (fun s H C cl fp => pe_u (F.blk hk s H C cl fp)) (hs X F) hs1) key
end

/-! ### calls where nothing is under way of being written out -/
def FnG (P : Program) (w : World) (K : Frag) (mg : Str → Option Value) (base : Heap) (k : Nat) (f : Addr) (sp : Sp) : Prop :=
  ∀ (A : Around) (outer : List Env) (s : Shared) (H : Hp) (us : List Value) (vs : List V) (Q : VK) (E : XK), A.guards = some [] → Room k A → Env0 P w K mg base A outer s H → Vals vs us → sp vs H Q E → codeAny (model P w) A (.call (.ref f) ⟨us, []⟩) (CR CX0 outer P w H s Q E) s
theorem FnG.mono {P : Program} {w : World} {K : Frag} {mg : Str → Option Value} {base : Heap} {j k : Nat} {f : Addr} {sp : Sp} (F : FnG P w K mg base j f sp) (h : j ≤ k) : FnG P w K mg base k f sp := fun A outer s H us vs Q E hg hr => F A outer s H us vs Q E hg (hr.mono h)
structure FnGS (I : Inf) (x : Str) (sp : Sp) : Prop where
  ok : ∃ (f : Addr), I.mg x = some (.ref f) ∧ PySem.W.keepIn I.K (.ref f) = true ∧ FnG I.prog I.w I.K I.mg I.base I.k f sp
section
variable {I : Inf} {c : Ct} {ds : List SD} {e : Expr} {P : D → Prop} {pos p : Pos}
theorem ev_callG {x : Str} {es : List Expr} {Pc : List AD → (D → Prop) → Prop} {PA : List AD → Prop} (hgd : I.gd = true) (hf : FnGS I x (spD I.K Pc)) (hg : I.sc.names.lookup x = some .globalImplicit) (ha : EvAD I c (e :: es) ds PA)
    (h : ∀ l, PA l → ∃ R, Pc l R ∧ ∀ d, R d → P d) (hdb : (x == ("__debug__" : Str)) = false := by decide)
    (he : ∀ X, Fits I X → starEach (e :: es) X.env = (false, eval e X.env) :: starEach es X.env := by intros; rfl) (hpl : ∀ X, Fits I X → (backTo pos (starEach es X.env)).any (·.1) = false := by intros; rfl) :
    EvE I c (.Call (.Name x p) (e :: es) [] pos) ds P := fun X F σ G H s Q k => by
  obtain ⟨f, hm, hk, G0⟩ := hf.ok
  have pe : PE X (.Call (.Name x p) (e :: es) [] pos) (fun σ H Q => wA X (e :: es) σ H fun vs H1 => spD I.K Pc vs H1 Q E0) := by
    refine ⟨fun pins s σ H Q J h => wpAny_Call_Name_kw (ld_glob J (by show X.env.scope.names.lookup x = _; rw [F.sc]; exact hg) (by rw [F.mg]; exact hm) ?_ hdb)⟩
    refine PySem.W.callWith_K (h₀ := X.base) J.ok.mod.kin (by rw [F.K]; exact hk) (thn (pa_w.run pos pins s σ H _ J h) fun us s1 ⟨vs, H1, I1, r, q⟩ => ⟨I1.kIn, ?_⟩) (he X F) (hpl X F)
    have G1 : FnG X.prog X.w X.K X.mg X.base I.k f (spD I.K Pc) := by rw [F.prog, F.w, F.K, F.mg, F.base]; exact G0
    refine wpAny_call (codeAny_mono (G1 X.A X.stack s1 H1 us vs Q E0 (F.gd hgd) F.room I1.env0 r q) fun r s' hq => ?_)
    match r, hq with
    | .error _, hq => exact (show False from hq).elim
    | .ok .next, hq => exact (show False from hq).elim
    | .ok .brk, hq => exact (show False from hq).elim
    | .ok .cont, hq => exact (show False from hq).elim
    | .ok (.ret u), hq => exact I1.after hq
  refine w_pe pe ?_
  refine ha X F σ G H s _ fun vs G1 H1 l x1 s1 r1 p1 => ?_
  obtain ⟨R, hc, hp⟩ := h l p1
  refine ⟨{ deck := c.Z.deck }, G1, l, R, rfl, s1.ex, s1.deck, ArgsRp.zone (Z := c.Z) (Z' := { deck := c.Z.deck }) rfl r1, hc, fun v G' H' d t r q => ?_⟩
  obtain ⟨s2, gr⟩ := State.after s1 t rfl (.inr rfl)
  exact k v G' H' d (x1.trans gr) s2 r (hp d q)
end
section
variable {P : Program} {w : World} {K : Frag} {mg : Str → Option Value} {base : Heap} {x qual : Str} {st : Stmt} {f : Addr} {fd : FuncData} {N ps : List Str} {k : Nat}
theorem fn_mkGD {Pc : List AD → (D → Prop) → Prop} (F : Fun K x qual st f fd) (Sc : FnScope N ps (defScope st)) (hl : ∀ ads R, Pc ads R → ads.length = ps.length)
    (hbind : ∀ (s : Shared) (us : List Value), us.length = ps.length → BindsTo s fd ⟨us, []⟩ (ps.zip us))
    (body : ∀ (c : Ct) (ads : List AD) (R : D → Prop), Pc ads R → c.Z.given = none → Run ⟨P, w, K, mg, base, N, defScope st, k, fun _ => true, true⟩ c (defBody st) (startD ads N.length) { nx := fun _ => R .none, rt := R }) :
    FnG P w K mg base (k + 1) f (spD K Pc) := by
  obtain ⟨oc, od, kV, doc, pm, an, cdv, ct, osl, rfl, lk, hcd⟩ := F.ex
  intro A outer s H us vs Q E hgd hr e0 r hsp
  obtain ⟨Z, G, ads, R, hz, ex, hd, ra, hc, q⟩ := hsp
  have hlv : vs.length = ps.length := by rw [ra.length]; exact hl ads R hc
  have kin : K.In s.heap := e0.mod.kin.keeps fun d o e => (e0.bs d o e).1
  have lim0 : s.heap.NoLimit := e0.mod.nolimit.keeps fun d o e => (e0.bs d o e).1
  have kinds : ∀ y ∈ ps.zip us, (defScope st).names.lookup y.1 = some .local ∨ ((defScope st).names.lookup y.1 = some .cell ∧ ((cellsFrom (s.heap.objs.size + 1) (defScope st).names []).lookup y.1).isSome = true) := by
    rintro ⟨nm, v⟩ hy
    rcases Sc.par nm (List.of_mem_zip hy).1 with z | z
    · exact .inl z
    · exact .inr ⟨z, PySem.W.cellsFrom_some _ _ _ (.inl z)⟩
  refine codeAny_call_function hr.depth (kin _ _ lk) rfl Sc.co Sc.gen rfl (PySem.W.codeRec_of kin hcd) (hbind s us (by rw [← r.length]; exact hlv) _ _ _ _ ?_)
  refine wpAny_newFunctionEnv_cells Sc.kind kinds fun en he s1 xi => ?_
  subst he
  refine ⟨lim0.keeps xi.toInCall.keep, codeAny_func ?_⟩
  have Fi := fits_defG (P := P) (w := w) (K := K) (mg := mg) (base := base) (f := f) (qual := qual) (cdv := cdv) (A := A) (outer := outer) (s := s) (H := H) (E := E0) Sc (hr.deeper _) hgd
  have go := body ⟨Z, G, H⟩ ads R hc hz _ Fi (L2.start N vs) G H { nx := fun _ H' => Q .non H', rt := Q } (State.start hz ex hd ra (by rw [hl ads R hc]; exact pre_le Sc)) ⟨fun σ' G' H' ds' e s' n => q .non G' H' .none s'.drop .non n, fun _ _ _ _ _ _ z => z.elim, fun _ _ _ _ _ _ z => z.elim,
      fun v G' H' d s' r' n => q v G' H' d s' r' n, fun _ _ _ _ _ _ _ _ _ _ _ _ z => z.elim, fun _ _ _ _ _ _ _ _ _ _ _ _ _ _ _ _ _ _ _ _ z => z.elim⟩
  have J : Inv (cxOf CX0 P w K mg base N qual (defScope st) f cdv A outer s H E0) [] (L2.start N vs) H s1 := inv_start Sc hr.hd e0 hlv r xi
  have ht : PSs (cxOf CX0 P w K mg base N qual (defScope st) f cdv A outer s H E0).nox (defBody st) _ := pss_w
  refine wpAny_mono (ht.nox.run [] s1 (L2.start N vs) H _ J go) (fun fl s' hs => ?_) fun e s' hs => hs
  have tell : ∀ {σ' : L2.St} {H' : Hp} {v : V} {u : Value}, Inv (cxOf CX0 P w K mg base N qual (defScope st) f cdv A outer s H E0) [] σ' H' s' → RelV v u → Q v H' → CE outer P w H s Q u s' := fun {σ' H' v u} J' rv q => ⟨v, H', J'.os, J'.bare, J'.base, J'.hok, rv, q⟩
  cases fl with
  | ret u =>
    obtain ⟨v, σ', H', J', rv, q'⟩ := hs
    exact tell J' rv q'
  | next =>
    obtain ⟨σ', H', J', q'⟩ := hs
    exact tell (v := V.non) (u := Value.none) J' rfl q'
  | brk =>
    obtain ⟨_, _, _, q'⟩ := hs
    exact q'.elim
  | cont =>
    obtain ⟨_, _, _, q'⟩ := hs
    exact q'.elim
end
/-! a call by one keyword -/
structure FnK1 (I : Inf) (x k1 : Str) (sp : Sp) : Prop where
  ok : ∃ (f : Addr) (fd : FuncData) (ps : List Str) (g : List Value → List Value → List Value) (gV : List V → List V → List V), I.mg x = some (.ref f) ∧ PySem.W.keepIn I.K (.ref f) = true ∧ KBinds I.K fd ps [k1] g gV ∧ (∀ a, gV [] [a] = [a]) ∧ FnOk I.prog I.w I.K I.mg I.base CX0 I.k f fd ps sp
section
variable {I : Inf} {c : Ct} {ds : List SD} {e1 : Expr} {P : D → Prop} {pos p q1 : Pos} {d1 : D}
theorem ev_callK1 {x k1 : Str} {Pc : List AD → (D → Prop) → Prop} {R : D → Prop} (hf : FnK1 I x k1 (spD I.K Pc)) (hg : I.sc.names.lookup x = some .globalImplicit) (h1 : EvE I c e1 ds (· = d1)) (hc : Pc [.dat d1] R) (hp : ∀ d, R d → P d)
    (hall : ∀ X, Fits I X → (backToKw pos (keywordEach [⟨some k1, e1, q1⟩] X.env)).all (·.1.isSome) = true := by intros; rfl)
    (hks : ∀ X, Fits I X → (backToKw pos (keywordEach [⟨some k1, e1, q1⟩] X.env)).filterMap (·.1) = [k1] := by intros; rfl) (hdb : (x == ("__debug__" : Str)) = false := by decide)
    (hpl : ∀ X, Fits I X → ((backTo pos (starEach [] X.env)).any (·.1) || (backToKw pos (keywordEach [⟨some k1, e1, q1⟩] X.env)).any (·.1.isNone)) = false := by intros; rfl) :
    EvE I c (.Call (.Name x p) [] [⟨some k1, e1, q1⟩] pos) ds P := fun X F σ G H s Q k => by
  obtain ⟨f, fd, ps, g, gV, hm, hk, hb, hgV, G0⟩ := hf.ok
  have G1 : FnOk X.prog X.w X.K X.mg X.base CX0 I.k f fd ps (spD I.K Pc) := by rw [F.prog, F.w, F.K, F.mg, F.base]; exact G0
  refine w_pe (pe_callK0 G1 F.room (by show X.env.scope.names.lookup x = _; rw [F.sc]; exact hg) (by rw [F.mg]; exact hm) (by rw [F.K]; exact hk) (by rw [F.K]; exact hb) pass0 (pk_cons pe_w pk_nil) (hall X F) (hks X F) hdb (hpl X F)) ?_
  refine h1 X F σ G H s _ fun v1 G1 H1 y1 x1 s1 r1 p1 => ?_
  subst p1
  show spD I.K Pc (gV [] [v1]) H1 Q E0
  rw [hgV]
  refine ⟨{ deck := c.Z.deck }, G1, [.dat y1], R, rfl, s1.ex, s1.deck, ⟨v1, _, rfl, r1, rfl⟩, hc, fun v G' H' d t r q => ?_⟩
  obtain ⟨s5, gr⟩ := State.after s1 t rfl (.inr rfl)
  exact k v G' H' d (x1.trans gr) s5 r (hp d q)
end
end Dl


set_option linter.all false
/-! trees of pairs over integers: leaves, lots, plain trees, all plain trees -/
namespace Tr
inductive T where
  | lf (i : Int)
  | nd (l r : T)
deriving DecidableEq
def lv : T → List Int
  | .lf i => [i]
  | .nd l r => lv l ++ lv r
def srt (l : List Int) : List Int := l.mergeSort (fun a b => decide (a ≤ b))
/-- the ascending leaves -/
def lo (t : T) : List Int := srt (lv t)
theorem srt_perm (l : List Int) : (srt l).Perm l := List.mergeSort_perm ..
theorem srt_pw (l : List Int) : (srt l).Pairwise (· ≤ ·) := by
  have := List.pairwise_mergeSort (le := fun a b : Int => decide (a ≤ b)) (fun a b c h1 h2 => by simp at *; omega) (fun a b => by simp; omega) l
  exact this.imp fun h => by simpa using h
theorem pw_perm_eq : ∀ {l m : List Int}, l.Pairwise (· ≤ ·) → m.Pairwise (· ≤ ·) → l.Perm m → l = m
  | [], m, _, _, h => by have := h.length_eq; cases m with | nil => rfl | cons _ _ => simp at this
  | a :: l, [], _, _, h => by have := h.length_eq; simp at this
  | a :: l, b :: m, h1, h2, h => by
    have ha : a ∈ b :: m := h.mem_iff.mp (by simp)
    have hb : b ∈ a :: l := h.mem_iff.mpr (by simp)
    rw [List.pairwise_cons] at h1 h2
    have e : a = b := by
      rcases List.mem_cons.mp ha with e | ha
      · exact e
      rcases List.mem_cons.mp hb with e | hb
      · exact e.symm
      have := h2.1 a ha; have := h1.1 b hb; omega
    subst e
    rw [pw_perm_eq h1.2 h2.2 ((List.perm_cons a).mp h)]
theorem srt_congr {l m : List Int} (h : l.Perm m) : srt l = srt m := pw_perm_eq (srt_pw l) (srt_pw m) ((srt_perm l).trans (h.trans (srt_perm m).symm))
theorem srt_id {l : List Int} (h : l.Pairwise (· ≤ ·)) : srt l = l := pw_perm_eq (srt_pw l) h (srt_perm l)
theorem lo_perm (t : T) : (lo t).Perm (lv t) := srt_perm _
theorem lo_nd (l r : T) : srt (lo l ++ lo r) = lo (.nd l r) := srt_congr ((lo_perm l).append (lo_perm r))
theorem lo_lf (i : Int) : lo (.lf i) = [i] := srt_id (List.pairwise_singleton ..)
theorem lv_ne : ∀ t, lv t ≠ []
  | .lf i => by simp [lv]
  | .nd l r => by simp [lv, lv_ne l]
/-- the least leaf -/
def mn : T → Int
  | .lf i => i
  | .nd l r => min (mn l) (mn r)
theorem mn_mem : ∀ t, mn t ∈ lv t
  | .lf i => by simp [mn, lv]
  | .nd l r => by
    have h1 := mn_mem l
    have h2 := mn_mem r
    simp only [mn, lv, List.mem_append]
    rcases Int.le_total (mn l) (mn r) with h | h
    · rw [Int.min_eq_left h]; exact .inl h1
    · rw [Int.min_eq_right h]; exact .inr h2
theorem mn_le : ∀ (t : T) {x : Int}, x ∈ lv t → mn t ≤ x
  | .lf i, x, h => by simp [lv] at h; simp [mn, h]
  | .nd l r, x, h => by
    simp only [lv, List.mem_append] at h
    simp only [mn]
    rcases h with h | h
    · have := mn_le l h; omega
    · have := mn_le r h; omega
theorem lo_head (t : T) : ∃ r, lo t = mn t :: r := by
  have hp := lo_perm t
  have hw := srt_pw (lv t)
  cases e : lo t with
  | nil => rw [e] at hp; exact absurd hp.symm.eq_nil (lv_ne t)
  | cons a r =>
    refine ⟨r, ?_⟩
    have h1 : a ∈ lv t := hp.mem_iff.mp (by rw [e]; simp)
    have h2 : mn t ∈ a :: r := by rw [← e]; exact hp.mem_iff.mpr (mn_mem t)
    have h3 := mn_le t h1
    have hw' : (lo t).Pairwise (· ≤ ·) := hw
    rw [e, List.pairwise_cons] at hw'
    rcases List.mem_cons.mp h2 with h | h
    · rw [h]
    · have := hw'.1 _ h
      have : a = mn t := by omega
      rw [this]
def Plain : T → Prop
  | .lf _ => True
  | .nd l r => Plain l ∧ Plain r ∧ mn l < mn r
/-- the plain tree of a tree -/
def pl : T → T
  | .lf i => .lf i
  | .nd l r => if mn l < mn r then .nd (pl l) (pl r) else .nd (pl r) (pl l)
theorem lv_pl : ∀ t, (lv (pl t)).Perm (lv t)
  | .lf i => by simp [pl]
  | .nd l r => by
    have h1 := lv_pl l
    have h2 := lv_pl r
    simp only [pl]
    split
    · simp only [lv]; exact h1.append h2
    · simp only [lv]; exact (List.perm_append_comm).trans (h1.append h2)
theorem lo_pl (t : T) : lo (pl t) = lo t := srt_congr (lv_pl t)
theorem mn_pl : ∀ t, mn (pl t) = mn t
  | .lf i => rfl
  | .nd l r => by
    have h1 := mn_pl l
    have h2 := mn_pl r
    simp only [pl]
    split <;> simp only [mn, h1, h2]
    omega
theorem disj {l r : T} (h : (lv (.nd l r)).Nodup) : (lv l).Nodup ∧ (lv r).Nodup ∧ ∀ x, x ∈ lv l → x ∈ lv r → False := by
  simp only [lv] at h
  have := List.nodup_append.mp h
  exact ⟨this.1, this.2.1, fun x h1 h2 => this.2.2 x h1 x h2 rfl⟩
theorem mn_ne {l r : T} (h : (lv (.nd l r)).Nodup) : mn l ≠ mn r := fun e => (disj h).2.2 (mn l) (mn_mem l) (by rw [e]; exact mn_mem r)
theorem plain_pl : ∀ t, (lv t).Nodup → Plain (pl t)
  | .lf i, _ => trivial
  | .nd l r, h => by
    have d := disj h
    have h1 := plain_pl l d.1
    have h2 := plain_pl r d.2.1
    have hn := mn_ne h
    simp only [pl]
    split
    · rename_i hlt
      exact ⟨h1, h2, by rw [mn_pl, mn_pl]; exact hlt⟩
    · exact ⟨h2, h1, by rw [mn_pl, mn_pl]; omega⟩
theorem pl_plain : ∀ t, Plain t → pl t = t
  | .lf i, _ => rfl
  | .nd l r, h => by
    obtain ⟨h1, h2, h3⟩ := h
    simp only [pl]
    rw [if_pos h3, pl_plain l h1, pl_plain r h2]
/-! lots -/
def lots : T → List (List Int)
  | .lf _ => []
  | .nd l r => lo (.nd l r) :: (lots l ++ lots r)
def lots2 : T → List (List Int)
  | .lf _ => []
  | .nd l r => lots2 l ++ lots2 r ++ [lo (.nd l r)]
theorem lots2_perm : ∀ t, (lots2 t).Perm (lots t)
  | .lf _ => .refl _
  | .nd l r => by
    simp only [lots2, lots]
    refine List.perm_append_comm.trans ?_
    exact (((lots2_perm l).append (lots2_perm r))).cons _
theorem lots_pl : ∀ t, (lots (pl t)).Perm (lots t)
  | .lf _ => .refl _
  | .nd l r => by
    have h1 := lots_pl l
    have h2 := lots_pl r
    have e : lo (pl (.nd l r)) = lo (.nd l r) := lo_pl _
    simp only [pl] at *
    split
    · rename_i h
      rw [if_pos h] at e
      simp only [lots]
      rw [e]
      exact (h1.append h2).cons _
    · rename_i h
      rw [if_neg h] at e
      simp only [lots]
      rw [e]
      exact (List.perm_append_comm.trans (h1.append h2)).cons _
theorem lots_sub : ∀ (t : T) {L : List Int}, L ∈ lots t → (∀ x ∈ L, x ∈ lv t) ∧ L ≠ []
  | .lf _, L, h => by simp [lots] at h
  | .nd l r, L, h => by
    simp only [lots, List.mem_cons, List.mem_append] at h
    rcases h with h | h | h
    · subst h
      exact ⟨fun x hx => (lo_perm _).mem_iff.mp hx, fun e => lv_ne (.nd l r) ((lo_perm (.nd l r)).symm.trans (by rw [e])).eq_nil⟩
    · have := lots_sub l h
      exact ⟨fun x hx => by simp only [lv, List.mem_append]; exact .inl (this.1 x hx), this.2⟩
    · have := lots_sub r h
      exact ⟨fun x hx => by simp only [lv, List.mem_append]; exact .inr (this.1 x hx), this.2⟩
theorem lo_mem (t : T) {x : Int} : x ∈ lo t ↔ x ∈ lv t := (lo_perm t).mem_iff
theorem lots_root {t : T} (h : ∀ i, t ≠ .lf i) : lo t ∈ lots t := by
  cases t with
  | lf i => exact absurd rfl (h i)
  | nd l r => simp [lots]
theorem leaf_of {t : T} (h : (lv t).length = 1) : ∃ i, t = .lf i := by
  cases t with
  | lf i => exact ⟨i, rfl⟩
  | nd l r =>
    have h1 := List.length_pos_iff.mpr (lv_ne l)
    have h2 := List.length_pos_iff.mpr (lv_ne r)
    simp only [lv, List.length_append] at h; omega
/-- the side with the least leaf: one half -/
theorem left_sub {l r l' r' : T} (hn : (lv (.nd l r)).Nodup) (hn' : (lv (.nd l' r')).Nodup) (hp : Plain (.nd l r)) (hp' : Plain (.nd l' r')) (hv : ∀ x, x ∈ lv (.nd l r) ↔ x ∈ lv (.nd l' r'))
    (hL : ∀ L, L ∈ lots (.nd l r) → L ∈ lots (.nd l' r')) : ∀ x ∈ lv l, x ∈ lv l' := by
  have hmn : mn (.nd l r) = mn (.nd l' r') := by
    have h1 := mn_le (.nd l r) ((hv _).mpr (mn_mem (.nd l' r')))
    have h2 := mn_le (.nd l' r') ((hv _).mp (mn_mem (.nd l r)))
    omega
  have e1 : mn (.nd l r) = mn l := by have := hp.2.2; simp only [mn]; omega
  have e2 : mn (.nd l' r') = mn l' := by have := hp'.2.2; simp only [mn]; omega
  have m : mn l = mn l' := by omega
  intro x hx
  by_cases hl : ∃ i, l = .lf i
  · obtain ⟨i, rfl⟩ := hl
    simp [lv] at hx
    subst hx
    have : mn (T.lf x) = x := rfl
    rw [this] at m
    rw [m]; exact mn_mem l'
  · have hlo := lots_root (t := l) (fun i e => hl ⟨i, e⟩)
    have hh := hL (lo l) (by simp only [lots, List.mem_cons, List.mem_append]; exact .inr (.inl hlo))
    simp only [lots, List.mem_cons, List.mem_append] at hh
    rcases hh with hh | hh | hh
    · exfalso
      have h1 : mn r ∈ lv (.nd l r) := by simp only [lv, List.mem_append]; exact .inr (mn_mem r)
      have h2 : mn r ∈ lo l := by rw [hh]; exact (lo_mem _).mpr ((hv _).mp h1)
      exact (disj hn).2.2 _ ((lo_mem _).mp h2) (mn_mem r)
    · exact (lots_sub l' hh).1 x ((lo_mem _).mpr hx)
    · exfalso
      have h1 := (lots_sub r' hh).1 (mn l) ((lo_mem _).mpr (mn_mem l))
      rw [m] at h1
      exact (disj hn').2.2 _ (mn_mem l') h1
theorem lots_left {l r l' r' : T} (hn : (lv (.nd l r)).Nodup) (hn' : (lv (.nd l' r')).Nodup) (h1 : ∀ x, x ∈ lv l ↔ x ∈ lv l') (h2 : ∀ x, x ∈ lv r ↔ x ∈ lv r')
    (hL : ∀ L, L ∈ lots (.nd l r) → L ∈ lots (.nd l' r')) : (∀ L, L ∈ lots l → L ∈ lots l') ∧ (∀ L, L ∈ lots r → L ∈ lots r') := by
  constructor
  · intro L h
    have hs := lots_sub l h
    have hh := hL L (by simp only [lots, List.mem_cons, List.mem_append]; exact .inr (.inl h))
    simp only [lots, List.mem_cons, List.mem_append] at hh
    rcases hh with hh | hh | hh
    · exfalso
      have : mn r' ∈ L := by rw [hh]; exact (lo_mem _).mpr (by simp only [lv, List.mem_append]; exact .inr (mn_mem r'))
      exact (disj hn').2.2 _ ((h1 _).mp (hs.1 _ this)) (mn_mem r')
    · exact hh
    · exfalso
      have ht := lots_sub r' hh
      obtain ⟨x, hx⟩ := List.exists_mem_of_ne_nil L hs.2
      exact (disj hn').2.2 x ((h1 _).mp (hs.1 x hx)) (ht.1 x hx)
  · intro L h
    have hs := lots_sub r h
    have hh := hL L (by simp only [lots, List.mem_cons, List.mem_append]; exact .inr (.inr h))
    simp only [lots, List.mem_cons, List.mem_append] at hh
    rcases hh with hh | hh | hh
    · exfalso
      have : mn l' ∈ L := by rw [hh]; exact (lo_mem _).mpr (by simp only [lv, List.mem_append]; exact .inl (mn_mem l'))
      exact (disj hn').2.2 _ (mn_mem l') ((h2 _).mp (hs.1 _ this))
    · exfalso
      have ht := lots_sub l' hh
      obtain ⟨x, hx⟩ := List.exists_mem_of_ne_nil L hs.2
      exact (disj hn').2.2 x (ht.1 x hx) ((h2 _).mp (hs.1 x hx))
    · exact hh
/-- a plain tree is told by its lots -/
theorem by_lots : ∀ (s t : T), (lv s).Nodup → (lv t).Nodup → Plain s → Plain t → (∀ x, x ∈ lv s ↔ x ∈ lv t) → (∀ L, L ∈ lots s ↔ L ∈ lots t) → s = t
  | .lf i, .lf j, _, _, _, _, hv, _ => by have := (hv i).mp (by simp [lv]); simp [lv] at this; rw [this]
  | .lf i, .nd l r, _, _, _, _, _, hL => by have := (hL (lo (.nd l r))).mpr (by simp [lots]); simp [lots] at this
  | .nd l r, .lf i, _, _, _, _, _, hL => by have := (hL (lo (.nd l r))).mp (by simp [lots]); simp [lots] at this
  | .nd l r, .nd l' r', hn, hn', hp, hp', hv, hL => by
    have a1 := left_sub hn hn' hp hp' hv (fun L h => (hL L).mp h)
    have a2 := left_sub hn' hn hp' hp (fun x => (hv x).symm) (fun L h => (hL L).mpr h)
    have h1 : ∀ x, x ∈ lv l ↔ x ∈ lv l' := fun x => ⟨a1 x, a2 x⟩
    have h2 : ∀ x, x ∈ lv r ↔ x ∈ lv r' := fun x => by
      have := hv x
      simp only [lv, List.mem_append] at this
      constructor
      · intro hx
        rcases this.mp (.inr hx) with h | h
        · exact absurd hx (fun hx => (disj hn).2.2 x ((h1 x).mpr h) hx)
        · exact h
      · intro hx
        rcases this.mpr (.inr hx) with h | h
        · exact absurd hx (fun hx => (disj hn').2.2 x ((h1 x).mp h) hx)
        · exact h
    have b1 := lots_left hn hn' h1 h2 (fun L h => (hL L).mp h)
    have b2 := lots_left hn' hn (fun x => (h1 x).symm) (fun x => (h2 x).symm) (fun L h => (hL L).mpr h)
    rw [by_lots l l' (disj hn).1 (disj hn').1 hp.1 hp'.1 h1 (fun L => ⟨b1.1 L, b2.1 L⟩), by_lots r r' (disj hn).2.1 (disj hn').2.1 hp.2.1 hp'.2.1 h2 (fun L => ⟨b1.2 L, b2.2 L⟩)]
/-! all plain trees -/
def put (t : T) (i : Int) : List T := .nd t (.lf i) :: match t with
  | .lf _ => []
  | .nd l r => (put l i).map (fun m => .nd m r) ++ (put r i).map (fun m => .nd l m)
theorem put_lf (j i : Int) : put (.lf j) i = [.nd (.lf j) (.lf i)] := by rw [put]
theorem put_nd (l r : T) (i : Int) : put (.nd l r) i = .nd (.nd l r) (.lf i) :: ((put l i).map (fun m => .nd m r) ++ (put r i).map (fun m => .nd l m)) := by rw [put]
def at_ : Nat → List T
  | 0 => [.lf 0]
  | n + 1 => (at_ n).flatMap (fun t => put t ((n + 1 : Nat) : Int))
/-- all plain trees of n items -/
def all (n : Nat) : List T := at_ (n - 1)
theorem put_ok : ∀ (t : T) (i : Int), Plain t → (∀ x ∈ lv t, x < i) → ∀ s ∈ put t i, Plain s ∧ (lv s).Perm (i :: lv t) ∧ mn s = mn t
  | .lf j, i, _, hi, s, hs => by
    rw [put_lf] at hs
    simp at hs; subst hs
    have := hi j (by simp [lv])
    refine ⟨⟨trivial, trivial, by simpa [mn] using this⟩, by simp [lv]; exact List.Perm.swap .., by simp [mn]; omega⟩
  | .nd l r, i, hp, hi, s, hs => by
    rw [put_nd] at hs
    obtain ⟨p1, p2, p3⟩ := hp
    have hl : ∀ x ∈ lv l, x < i := fun x hx => hi x (by simp only [lv, List.mem_append]; exact .inl hx)
    have hr : ∀ x ∈ lv r, x < i := fun x hx => hi x (by simp only [lv, List.mem_append]; exact .inr hx)
    rcases List.mem_cons.mp hs with hs | hs
    · subst hs
      have hm := hl _ (mn_mem l)
      refine ⟨⟨⟨p1, p2, p3⟩, trivial, by simp only [mn]; omega⟩, ?_, by simp only [mn]; omega⟩
      simp only [lv]
      exact List.perm_append_comm
    · rcases List.mem_append.mp hs with hs | hs
      · obtain ⟨m, hm, rfl⟩ := List.mem_map.mp hs
        obtain ⟨q1, q2, q3⟩ := put_ok l i p1 hl m hm
        refine ⟨⟨q1, p2, by omega⟩, ?_, by simp only [mn]; omega⟩
        simp only [lv]
        exact q2.append_right _
      · obtain ⟨m, hm, rfl⟩ := List.mem_map.mp hs
        obtain ⟨q1, q2, q3⟩ := put_ok r i p2 hr m hm
        refine ⟨⟨p1, q1, by omega⟩, ?_, by simp only [mn]; omega⟩
        simp only [lv]
        exact (q2.append_left _).trans List.perm_middle
def upto (n : Nat) : List Int := (List.range n).map fun i => ((i : Nat) : Int)
theorem upto_succ (n : Nat) : upto (n + 1) = upto n ++ [(n : Int)] := by unfold upto; rw [List.range_succ, List.map_append]; rfl
theorem upto_mem {n : Nat} {x : Int} : x ∈ upto n ↔ 0 ≤ x ∧ x < n := by
  unfold upto
  rw [List.mem_map]
  constructor
  · rintro ⟨i, hi, rfl⟩; have := List.mem_range.mp hi; omega
  · rintro ⟨h1, h2⟩; exact ⟨x.toNat, List.mem_range.mpr (by omega), by omega⟩
theorem upto_nodup (n : Nat) : (upto n).Nodup := by
  unfold upto
  rw [List.nodup_iff_pairwise_ne, List.pairwise_map]
  exact (List.nodup_iff_pairwise_ne.mp List.nodup_range).imp fun h e => h (by omega)
theorem at_ok : ∀ n, ∀ t ∈ at_ n, Plain t ∧ (lv t).Perm (upto (n + 1))
  | 0, t, h => by simp [at_] at h; subst h; exact ⟨trivial, by simp [lv, upto]⟩
  | n + 1, t, h => by
    rw [at_, List.mem_flatMap] at h
    obtain ⟨s, hs, ht⟩ := h
    obtain ⟨p1, p2⟩ := at_ok n s hs
    obtain ⟨q1, q2, _⟩ := put_ok s _ p1 (fun x hx => by have := upto_mem.mp (p2.mem_iff.mp hx); omega) t ht
    refine ⟨q1, ?_⟩
    rw [upto_succ]
    exact q2.trans ((p2.cons _).trans (List.perm_append_comm (l₁ := [_]) (l₂ := upto (n + 1))))
/-- a plain tree with its greatest leaf taken out -/
theorem take_out : ∀ (t : T) (i : Int), Plain t → (lv t).Nodup → (∀ x ∈ lv t, x ≤ i) → i ∈ lv t → (∀ j, t ≠ .lf j) → ∃ s, Plain s ∧ t ∈ put s i ∧ (lv t).Perm (i :: lv s) ∧ mn s = mn t
  | .lf j, i, _, _, _, _, h => absurd rfl (h j)
  | .nd l r, i, hp, hn, hi, hm, _ => by
    obtain ⟨p1, p2, p3⟩ := hp
    have d := disj hn
    have hl : ∀ x ∈ lv l, x ≤ i := fun x hx => hi x (by simp only [lv, List.mem_append]; exact .inl hx)
    have hr : ∀ x ∈ lv r, x ≤ i := fun x hx => hi x (by simp only [lv, List.mem_append]; exact .inr hx)
    simp only [lv, List.mem_append] at hm
    rcases hm with hm | hm
    · by_cases hlf : ∃ j, l = .lf j
      · obtain ⟨j, rfl⟩ := hlf
        simp [lv] at hm
        subst hm
        have := hr _ (mn_mem r)
        simp only [mn] at p3
        omega
      · obtain ⟨s, q1, q2, q3, q4⟩ := take_out l i p1 d.1 hl hm (fun j e => hlf ⟨j, e⟩)
        refine ⟨.nd s r, ⟨q1, p2, by omega⟩, ?_, ?_, by simp only [mn, q4]⟩
        · rw [put_nd]
          exact List.mem_cons_of_mem _ (List.mem_append.mpr (.inl (List.mem_map.mpr ⟨l, q2, rfl⟩)))
        · simp only [lv]; exact q3.append_right _
    · by_cases hlf : ∃ j, r = .lf j
      · obtain ⟨j, rfl⟩ := hlf
        simp [lv] at hm
        subst hm
        refine ⟨l, p1, ?_, ?_, by simp only [mn] at *; omega⟩
        · cases l with
          | lf j => rw [put_lf]; simp
          | nd a b => rw [put_nd]; simp
        · simp only [lv]; exact List.perm_append_comm
      · obtain ⟨s, q1, q2, q3, q4⟩ := take_out r i p2 d.2.1 hr hm (fun j e => hlf ⟨j, e⟩)
        refine ⟨.nd l s, ⟨p1, q1, by omega⟩, ?_, ?_, by simp only [mn, q4]⟩
        · rw [put_nd]
          exact List.mem_cons_of_mem _ (List.mem_append.mpr (.inr (List.mem_map.mpr ⟨r, q2, rfl⟩)))
        · simp only [lv]; exact (q3.append_left _).trans List.perm_middle
theorem at_all : ∀ (n : Nat) (t : T), Plain t → (lv t).Perm (upto (n + 1)) → t ∈ at_ n
  | 0, t, _, h => by
    have hl := h.length_eq
    obtain ⟨i, rfl⟩ := leaf_of (t := t) (by rw [hl]; simp [upto])
    have : i ∈ upto 1 := h.mem_iff.mp (by simp [lv])
    have := upto_mem.mp this
    have e : i = 0 := by omega
    subst e; simp [at_]
  | n + 1, t, hp, h => by
    have hnd : (lv t).Nodup := h.nodup_iff.mpr (upto_nodup _)
    have hlen : (lv t).length = n + 2 := by rw [h.length_eq]; simp [upto]
    obtain ⟨s, q1, q2, q3, _⟩ := take_out t ((n + 1 : Nat) : Int) hp hnd (fun x hx => by have := upto_mem.mp (h.mem_iff.mp hx); omega) (h.mem_iff.mpr (upto_mem.mpr (by omega))) (fun j e => by subst e; simp [lv] at hlen)
    have hs : (lv s).Perm (upto (n + 1)) := by
      have := q3.symm.trans h
      rw [upto_succ] at this
      exact (List.perm_cons _).mp (this.trans (List.perm_append_comm (l₁ := upto (n + 1)) (l₂ := [_])))
    rw [at_, List.mem_flatMap]
    exact ⟨s, at_all n s q1 hs, q2⟩
theorem count2 : (all 2).length = 1 := by decide +kernel
theorem count3 : (all 3).length = 3 := by decide +kernel
theorem count4 : (all 4).length = 15 := by decide +kernel
theorem count5 : (all 5).length = 105 := by decide +kernel
theorem count6 : (all 6).length = 945 := by decide +kernel
/-- numbers of integers and pairs -/
def sz : T → Nat
  | .lf _ => 1
  | .nd l r => sz l + sz r + 1
theorem sz_lv : ∀ t, sz t + 1 = 2 * (lv t).length
  | .lf _ => rfl
  | .nd l r => by have := sz_lv l; have := sz_lv r; simp only [sz, lv, List.length_append]; omega
/-! no tree stands twice -/
def del : T → Int → T
  | .lf j, _ => .lf j
  | .nd l r, i => if r = .lf i then l else .nd (del l i) (del r i)
theorem del_id : ∀ (t : T) (i : Int), i ∉ lv t → del t i = t
  | .lf j, i, _ => rfl
  | .nd l r, i, h => by
    have h1 : i ∉ lv l := fun q => h (by simp only [lv, List.mem_append]; exact .inl q)
    have h2 : i ∉ lv r := fun q => h (by simp only [lv, List.mem_append]; exact .inr q)
    have h3 : r ≠ .lf i := fun q => h2 (by rw [q]; simp [lv])
    simp only [del]
    rw [if_neg h3, del_id l i h1, del_id r i h2]
theorem put_nl : ∀ (t : T) (i : Int), ∀ s ∈ put t i, ∀ j, s ≠ .lf j
  | .lf k, i, s, hs, j => by rw [put_lf] at hs; simp at hs; rw [hs]; simp
  | .nd l r, i, s, hs, j => by
    rw [put_nd] at hs
    rcases List.mem_cons.mp hs with hs | hs
    · rw [hs]; simp
    · rcases List.mem_append.mp hs with hs | hs
      · obtain ⟨m, _, rfl⟩ := List.mem_map.mp hs; simp
      · obtain ⟨m, _, rfl⟩ := List.mem_map.mp hs; simp
theorem put_mem : ∀ (t : T) (i : Int), ∀ s ∈ put t i, i ∈ lv s
  | .lf k, i, s, hs => by rw [put_lf] at hs; simp at hs; rw [hs]; simp [lv]
  | .nd l r, i, s, hs => by
    rw [put_nd] at hs
    rcases List.mem_cons.mp hs with hs | hs
    · rw [hs]; simp [lv]
    · rcases List.mem_append.mp hs with hs | hs
      · obtain ⟨m, hm, rfl⟩ := List.mem_map.mp hs
        simp only [lv, List.mem_append]; exact .inl (put_mem l i m hm)
      · obtain ⟨m, hm, rfl⟩ := List.mem_map.mp hs
        simp only [lv, List.mem_append]; exact .inr (put_mem r i m hm)
theorem put_del : ∀ (t : T) (i : Int), i ∉ lv t → ∀ s ∈ put t i, del s i = t
  | .lf k, i, h, s, hs => by rw [put_lf] at hs; simp at hs; rw [hs]; simp [del]
  | .nd l r, i, h, s, hs => by
    have h1 : i ∉ lv l := fun q => h (by simp only [lv, List.mem_append]; exact .inl q)
    have h2 : i ∉ lv r := fun q => h (by simp only [lv, List.mem_append]; exact .inr q)
    rw [put_nd] at hs
    rcases List.mem_cons.mp hs with hs | hs
    · rw [hs]; simp [del]
    · rcases List.mem_append.mp hs with hs | hs
      · obtain ⟨m, hm, rfl⟩ := List.mem_map.mp hs
        have h3 : r ≠ .lf i := fun q => h2 (by rw [q]; simp [lv])
        simp only [del]
        rw [if_neg h3, put_del l i h1 m hm, del_id r i h2]
      · obtain ⟨m, hm, rfl⟩ := List.mem_map.mp hs
        have h3 : m ≠ .lf i := put_nl r i m hm i
        simp only [del]
        rw [if_neg h3, put_del r i h2 m hm, del_id l i h1]
theorem put_nd' : ∀ (t : T) (i : Int), i ∉ lv t → (put t i).Nodup
  | .lf k, i, h => by rw [put_lf]; simp
  | .nd l r, i, h => by
    have h1 : i ∉ lv l := fun q => h (by simp only [lv, List.mem_append]; exact .inl q)
    have h2 : i ∉ lv r := fun q => h (by simp only [lv, List.mem_append]; exact .inr q)
    have h3 : r ≠ .lf i := fun q => h2 (by rw [q]; simp [lv])
    rw [put_nd, List.nodup_cons]
    refine ⟨fun q => ?_, List.nodup_append.mpr ⟨?_, ?_, fun a ha b hb e => ?_⟩⟩
    · rcases List.mem_append.mp q with q | q
      · obtain ⟨m, hm, e⟩ := List.mem_map.mp q
        injection e with e1 e2
        exact h3 e2
      · obtain ⟨m, hm, e⟩ := List.mem_map.mp q
        injection e with e1 e2
        exact put_nl r i m hm i e2
    · rw [List.nodup_iff_pairwise_ne, List.pairwise_map]
      exact (List.nodup_iff_pairwise_ne.mp (put_nd' l i h1)).imp fun q e => q (by injection e)
    · rw [List.nodup_iff_pairwise_ne, List.pairwise_map]
      exact (List.nodup_iff_pairwise_ne.mp (put_nd' r i h2)).imp fun q e => q (by injection e)
    · subst e
      obtain ⟨m, hm, rfl⟩ := List.mem_map.mp ha
      obtain ⟨m', hm', e⟩ := List.mem_map.mp hb
      injection e with e1 e2
      exact h1 (by rw [e1]; exact put_mem l i m hm)
theorem at_nodup : ∀ n, (at_ n).Nodup
  | 0 => by simp [at_]
  | n + 1 => by
    have out : ∀ t ∈ at_ n, ((n + 1 : Nat) : Int) ∉ lv t := fun t ht q => by
      have := upto_mem.mp ((at_ok n t ht).2.mem_iff.mp q); omega
    rw [at_, List.nodup_iff_pairwise_ne, List.pairwise_flatMap]
    refine ⟨fun t ht => List.nodup_iff_pairwise_ne.mp (put_nd' t _ (out t ht)), ?_⟩
    have h : ∀ {a b : T}, [a, b].Sublist (at_ n) → a ≠ b := List.pairwise_iff_forall_sublist.mp (List.nodup_iff_pairwise_ne.mp (at_nodup n))
    rw [List.pairwise_iff_forall_sublist]
    intro a b hs x hx y hy e
    have ha : a ∈ at_ n := hs.subset (by simp)
    have hb : b ∈ at_ n := hs.subset (by simp)
    subst e
    exact h hs ((put_del a _ (out a ha) x hx).symm.trans (put_del b _ (out b hb) x hy))
/-- two sorted lists of the same items -/
theorem pw_eq {α : Type} {R : α → α → Prop} (anti : ∀ a b, R a b → R b a → a = b) : ∀ {l m : List α}, l.Pairwise R → m.Pairwise R → l.Perm m → l = m
  | [], m, _, _, h => by have := h.length_eq; cases m with | nil => rfl | cons _ _ => simp at this
  | a :: l, [], _, _, h => by have := h.length_eq; simp at this
  | a :: l, b :: m, h1, h2, h => by
    have ha : a ∈ b :: m := h.mem_iff.mp (by simp)
    have hb : b ∈ a :: l := h.mem_iff.mpr (by simp)
    rw [List.pairwise_cons] at h1 h2
    have e : a = b := by
      rcases List.mem_cons.mp ha with e | ha
      · exact e
      rcases List.mem_cons.mp hb with e | hb
      · exact e.symm
      exact anti _ _ (h1.1 b hb) (h2.1 a ha)
    subst e
    rw [pw_eq anti h1.2 h2.2 ((List.perm_cons a).mp h)]
/-- height -/
def ht : T → Nat
  | .lf _ => 0
  | .nd l r => max (ht l) (ht r) + 1
theorem ht_lv : ∀ t, ht t + 1 ≤ (lv t).length
  | .lf _ => by simp [ht, lv]
  | .nd l r => by
    have := ht_lv l; have := ht_lv r
    simp only [ht, lv, List.length_append]; omega
theorem lots_len : ∀ t, (lots t).length + 1 = (lv t).length
  | .lf _ => by simp [lots, lv]
  | .nd l r => by
    have := lots_len l; have := lots_len r
    simp only [lots, lv, List.length_append, List.length_cons]; omega
end Tr


set_option Elab.async false
set_option maxRecDepth 100000
set_option exponentiation.threshold 2000
set_option linter.all false
set_option maxHeartbeats 1000000
namespace K8
open PySem L2 Dl
local macro_rules | `(tactic| walk_at "vis") => `(tactic| first | exact Or.inl rfl | exact Or.inr (Or.inl rfl) | exact Or.inr (Or.inr rfl))
local macro_rules | `(tactic| walk_at "sto") => `(tactic| first | exact ⟨rfl, Or.inl rfl, Or.inl rfl⟩ | exact ⟨rfl, Or.inl rfl, Or.inr rfl⟩ | exact ⟨rfl, Or.inr rfl, Or.inl rfl⟩)
local macro_rules | `(tactic| walk_at "var") => `(tactic| first
  | exact ev_var 0 rfl (by walk_at "vis") rfl | exact ev_var 1 rfl (by walk_at "vis") rfl | exact ev_var 2 rfl (by walk_at "vis") rfl | exact ev_var 3 rfl (by walk_at "vis") rfl
  | exact ev_var 4 rfl (by walk_at "vis") rfl | exact ev_var 5 rfl (by walk_at "vis") rfl | exact ev_var 6 rfl (by walk_at "vis") rfl | exact ev_var 7 rfl (by walk_at "vis") rfl
  | exact ev_var 8 rfl (by walk_at "vis") rfl | exact ev_var 9 rfl (by walk_at "vis") rfl | exact ev_var 10 rfl (by walk_at "vis") rfl | exact ev_var 11 rfl (by walk_at "vis") rfl
  | exact ev_var 12 rfl (by walk_at "vis") rfl | exact ev_var 13 rfl (by walk_at "vis") rfl | exact ev_var 14 rfl (by walk_at "vis") rfl | exact ev_var 15 rfl (by walk_at "vis") rfl)

local macro_rules | `(tactic| walk_at "ev") => `(tactic| first
  | exact ev_int | exact ev_bl | exact ev_str | exact ev_non
  | walk_at "var"
  | (refine ev_neg ?_ <;> walk_at "ev")
  | (refine ev_add ?_ ?_ <;> walk_at "ev")
  | (refine ev_sub ?_ ?_ <;> walk_at "ev"))

local macro_rules | `(tactic| walk_at "blk") => `(tactic| (dsimp only; decide +kernel))
def top (i : Nat) : Stmt := PySem.Challenge.pw_tripmeans_k60_all_trees_counted_and_list.main.body.getD i (.Pass ⟨0, 0, 0, 0⟩)
open PySem.W (alike alikeAll keyToks keyToksAll alike_ints AllAlike Sortable dataLe_int dataLe_rows sort_maps sort_congr)

/-- a def of the module that keeps its promise -/
def Has (P : Program) (w : World) (K : Frag) (mg : Str → Option Value) (base : Heap) (k : Nat) (x : Str) (sp : Sp) : Prop :=
  ∃ (f : Addr) (fd : FuncData) (ps : List Str), mg x = some (.ref f) ∧ PySem.W.keepIn K (.ref f) = true ∧ Binds K fd ps [] ∧ FnOk P w K mg base CX0 k f fd ps sp
def HasG (P : Program) (w : World) (K : Frag) (mg : Str → Option Value) (base : Heap) (k : Nat) (x : Str) (sp : Sp) : Prop :=
  ∃ (f : Addr), mg x = some (.ref f) ∧ PySem.W.keepIn K (.ref f) = true ∧ FnG P w K mg base k f sp
def Has1 (P : Program) (w : World) (K : Frag) (mg : Str → Option Value) (base : Heap) (k : Nat) (x k1 : Str) (sp : Sp) : Prop :=
  ∃ (f : Addr) (fd : FuncData) (ps : List Str) (g : List Value → List Value → List Value) (gV : List V → List V → List V), mg x = some (.ref f) ∧ PySem.W.keepIn K (.ref f) = true ∧ KBinds K fd ps [k1] g gV ∧ (∀ a, gV [] [a] = [a]) ∧ FnOk P w K mg base CX0 k f fd ps sp
/-- the built-ins that the module leaves as they are -/
structure Mg (mg : Str → Option Value) : Prop where
  len : mg "len" = none
  range : mg "range" = none
  enumerate : mg "enumerate" = none
  list : mg "list" = none
  tuple : mg "tuple" = none
  int : mg "int" = none
  max : mg "max" = none
  isinstance : mg "isinstance" = none
  bool : mg "bool" = none
  sorted : mg "sorted" = none
  repr : mg "repr" = none
theorem get_int {ns : List Int} {i : Nat} {d : D} (h : (ns.map PyData.int)[i]? = some d) : ∃ n, ns[i]? = some n ∧ d = .int n := by
  rw [List.getElem?_map] at h
  cases e : ns[i]? with
  | none => rw [e] at h; cases h
  | some n => rw [e] at h; cases h; exact ⟨n, rfl, rfl⟩
theorem mem_int {ns : List Int} {d : D} (h : d ∈ ns.map PyData.int) : ∃ n, n ∈ ns ∧ d = .int n := by
  obtain ⟨n, hn, rfl⟩ := List.mem_map.mp h; exact ⟨n, hn, rfl⟩

/-! trees, rows as data -/
abbrev T := Tr.T
def tD : T → D
  | .lf i => .int i
  | .nd l r => .tuple [tD l, tD r]
def rowT (r : List Int) : D := .tuple (r.map PyData.int)
def isNd : T → Bool
  | .lf _ => false
  | .nd _ _ => true
theorem alike_row (a b : List Int) : alike (rowT a) (rowT b) = true := by
  unfold rowT; simp only [alike]; exact alike_ints a b
theorem alike_rows : ∀ xs ys : List (List Int), alikeAll (xs.map rowT) (ys.map rowT) = true
  | [], _ => by simp [alikeAll]
  | _ :: _, [] => by simp [alikeAll]
  | x :: xs, y :: ys => by
    show alikeAll (rowT x :: xs.map rowT) (rowT y :: ys.map rowT) = true
    rw [alikeAll, alike_rows xs ys, alike_row]; rfl
theorem alike_tree : ∀ t : T, alike (tD t) (tD t) = true
  | .lf i => by simp [tD, alike]
  | .nd l r => by simp [tD, alike, alikeAll, alike_tree l, alike_tree r]
theorem dpt_row (r : List Int) : (rowT r).depth ≤ 1 := by
  unfold rowT; simp only [PyData.depth, PySem.W.depth_ints]; omega
theorem dpt_rows : ∀ xs : List (List Int), PyData.depthAll (xs.map rowT) ≤ 1
  | [] => by simp [PyData.depthAll]
  | x :: xs => by
    have := dpt_row x; have := dpt_rows xs
    simp only [List.map_cons, PyData.depthAll]; omega
theorem dpt_tree : ∀ t : T, (tD t).depth ≤ Tr.ht t
  | .lf i => by simp [tD, PyData.depth]
  | .nd l r => by
    have := dpt_tree l; have := dpt_tree r
    simp only [tD, PyData.depth, PyData.depthAll, Tr.ht]; omega
theorem eqv_intsA : ∀ a b : List Int, PyData.eqvAll (a.map PyData.int) (b.map PyData.int) = decide (a = b)
  | [], [] => by simp [PyData.eqvAll]
  | [], _ :: _ => by simp [PyData.eqvAll]
  | _ :: _, [] => by simp [PyData.eqvAll]
  | x :: a, y :: b => by
    simp only [List.map_cons, PyData.eqvAll, eqv_intsA a b, PyData.eqv]
    rw [Bool.eq_iff_iff]; simp
theorem eqv_row (a b : List Int) : PyData.eqv (rowT a) (rowT b) = decide (a = b) := by
  unfold rowT; simp only [PyData.eqv]; exact eqv_intsA a b
theorem eqv_rowsA : ∀ xs ys : List (List Int), PyData.eqvAll (xs.map rowT) (ys.map rowT) = decide (xs = ys)
  | [], [] => by simp [PyData.eqvAll]
  | [], _ :: _ => by simp [PyData.eqvAll]
  | _ :: _, [] => by simp [PyData.eqvAll]
  | x :: a, y :: b => by
    simp only [List.map_cons, PyData.eqvAll, eqv_rowsA a b, eqv_row]
    rw [Bool.eq_iff_iff]; simp
theorem lay_ints (ns : List Int) : PyData.canLayAll0 (ns.map PyData.int) = true := by
  induction ns with
  | nil => simp [PyData.canLayAll0]
  | cons n ns ih => simp [PyData.canLayAll0, PyData.canLay0, ih]
theorem lay_rows (xs : List (List Int)) : PyData.canLayAll0 (xs.map rowT) = true := by
  induction xs with
  | nil => simp [PyData.canLayAll0]
  | cons n ns ih => simp [PyData.canLayAll0, PyData.canLay0, ih, rowT, lay_ints]

/-! orders -/
theorem io_ints (ns : List Int) : InOrder ns PyData.int PyData.int := .alike (AllAlike.of fun _ _ => by simp [alike]) (Sortable.others fun _ => ⟨by simp, by simp⟩) rfl
theorem ord_ints : (ordBy PyData.int) = fun a b : Int => decide (a ≤ b) := dataLe_int (fun b => b)
theorem srt_ints (ns : List Int) : ns.mergeSort (ordBy PyData.int) = Tr.srt ns := by rw [ord_ints]; rfl
def srtR (ls : List (List Int)) : List (List Int) := ls.mergeSort (ordBy rowT)
theorem ord_rows : ordBy rowT = fun p q : List Int => decide (p ≤ q) := by
  rw [← dataLe_rows (fun b : List Int => b)]
  funext p q
  unfold ordBy PySem.W.dataLe rowT
  simp only [keyToks]
theorem srtR_pw (l : List (List Int)) : (srtR l).Pairwise (· ≤ ·) := by
  unfold srtR; rw [ord_rows]
  have := List.pairwise_mergeSort (le := fun p q : List Int => decide (p ≤ q)) (fun a b c h1 h2 => by simp only [decide_eq_true_eq] at *; exact List.le_trans h1 h2) (fun a b => by simp only [Bool.or_eq_true, decide_eq_true_eq]; exact List.le_total a b) l
  exact this.imp fun h => by simpa using h
theorem srtR_perm (l : List (List Int)) : (srtR l).Perm l := List.mergeSort_perm ..
theorem srtR_congr {l m : List (List Int)} (h : l.Perm m) : srtR l = srtR m := Tr.pw_eq (fun a b => List.le_antisymm) (srtR_pw l) (srtR_pw m) ((srtR_perm l).trans (h.trans (srtR_perm m).symm))
theorem io_rows {ls : List (List Int)} (h : ∀ L ∈ ls, L ≠ []) : InOrder ls rowT rowT := .alike (AllAlike.of alike_row) (.inl fun d hd => by
  obtain ⟨L, hL, rfl⟩ := List.mem_map.mp hd
  cases L with
  | nil => exact absurd rfl (h _ hL)
  | cons x r => exact ⟨.int x, r.map PyData.int, rfl⟩) rfl
def key (t : T) : List (List Int) := srtR (Tr.lots t)
def keyT (t : T) : D := .tuple ((key t).map rowT)
def keyL (t : T) : D := .list ((key t).map rowT)
theorem key_pl (t : T) : key (Tr.pl t) = key t := srtR_congr (Tr.lots_pl t)
theorem key_two (t : T) : srtR (Tr.lots2 t) = key t := srtR_congr (Tr.lots2_perm t)
theorem all_ok {n : Nat} (h1 : 1 ≤ n) {t : T} (h : t ∈ Tr.all n) : Tr.Plain t ∧ (Tr.lv t).Perm (Tr.upto n) := by
  have := Tr.at_ok (n - 1) t h
  rwa [show n - 1 + 1 = n by omega] at this
theorem all_in {n : Nat} (h1 : 1 ≤ n) {t : T} (hp : Tr.Plain t) (h : (Tr.lv t).Perm (Tr.upto n)) : t ∈ Tr.all n := by
  unfold Tr.all
  exact Tr.at_all (n - 1) t hp (by rwa [show n - 1 + 1 = n by omega])
theorem nodup_of {n : Nat} {t : T} (h : (Tr.lv t).Perm (Tr.upto n)) : (Tr.lv t).Nodup := h.nodup_iff.mpr (Tr.upto_nodup n)
theorem len_of {n : Nat} {t : T} (h : (Tr.lv t).Perm (Tr.upto n)) : (Tr.lv t).length = n := by rw [h.length_eq]; simp [Tr.upto]
theorem key_inj {n : Nat} (h1 : 1 ≤ n) {s t : T} (hs : s ∈ Tr.all n) (ht : t ∈ Tr.all n) (h : key s = key t) : s = t := by
  obtain ⟨p1, v1⟩ := all_ok h1 hs
  obtain ⟨p2, v2⟩ := all_ok h1 ht
  refine Tr.by_lots s t (nodup_of v1) (nodup_of v2) p1 p2 (fun x => (v1.trans v2.symm).mem_iff) (fun L => ?_)
  have e1 : L ∈ key s ↔ L ∈ Tr.lots s := (srtR_perm _).mem_iff
  have e2 : L ∈ key t ↔ L ∈ Tr.lots t := (srtR_perm _).mem_iff
  rw [← e1, ← e2, h]
theorem key_len (t : T) : (key t).length = (Tr.lots t).length := (srtR_perm _).length_eq
/-! the program's pairs, the law's rows -/
def pairP (t : T) : D := .tuple [keyT t, tD t]
def rowL (p : T × Nat) : D := .tuple [keyL p.1, .int (p.2 : Nat), tD p.1]
theorem heads_p {n : Nat} (h1 : 1 ≤ n) : Heads (Tr.all n) pairP keyT where
  tup := fun b => ⟨_, rfl⟩
  al := fun b _ b' _ => by unfold keyT; simp only [alike]; exact alike_rows _ _
  no := fun b _ => by unfold keyT; simp
  one := fun b hb b' hb' h => by
    unfold keyT at h; simp only [PyData.eqv, eqv_rowsA, decide_eq_true_eq] at h
    rw [key_inj h1 hb hb' h]
  self := fun b _ => by
    unfold pairP keyT; simp only [alike, alikeAll, alike_rows, alike_tree, Bool.and_true]
theorem mem_zip {l : List T} {p : T × Nat} (h : p ∈ l.zipIdx) : l[p.2]? = some p.1 := by
  obtain ⟨t, i⟩ := p
  have := List.mk_mem_zipIdx_iff_getElem?.mp h
  simpa using this
theorem nodup_inj {l : List T} (h : l.Nodup) {i j : Nat} {a : T} (hi : l[i]? = some a) (hj : l[j]? = some a) : i = j := by
  obtain ⟨q1, q2⟩ := List.getElem?_eq_some_iff.mp hi
  obtain ⟨q3, q4⟩ := List.getElem?_eq_some_iff.mp hj
  have hp := List.pairwise_iff_getElem.mp (List.nodup_iff_pairwise_ne.mp h)
  rcases Nat.lt_trichotomy i j with z | z | z
  · exact absurd (q2.trans q4.symm) (hp i j q1 q3 z)
  · exact z
  · exact absurd (q4.trans q2.symm) (hp j i q3 q1 z)
theorem heads_l {n : Nat} (h1 : 1 ≤ n) : Heads (Tr.all n).zipIdx rowL (fun p => keyL p.1) where
  tup := fun b => ⟨_, rfl⟩
  al := fun b _ b' _ => by unfold keyL; simp only [alike]; exact alike_rows _ _
  no := fun b _ => by unfold keyL; simp
  one := fun b hb b' hb' h => by
    unfold keyL at h; simp only [PyData.eqv, eqv_rowsA, decide_eq_true_eq] at h
    have g1 := mem_zip hb
    have g2 := mem_zip hb'
    have e := key_inj h1 (List.mem_of_getElem? g1) (List.mem_of_getElem? g2) h
    have e2 : b.2 = b'.2 := by
      rw [← e] at g2
      exact nodup_inj (Tr.at_nodup (n - 1)) g1 g2
    unfold rowL; rw [e, e2]
  self := fun b _ => by
    unfold rowL keyL; simp only [alike, alikeAll, alike_rows, alike_tree, Bool.and_true]
def allS (n : Nat) : List T := (Tr.all n).mergeSort (ordBy keyT)
def allL (n : Nat) : List (T × Nat) := (Tr.all n).zipIdx.mergeSort (ordBy fun p => keyL p.1)
theorem allL_fst (n : Nat) : (allL n).map Prod.fst = allS n := by
  unfold allL allS
  rw [sort_maps (s := ordBy keyT) Prod.fst (fun a _ b _ => ?_), List.zipIdx_map_fst]
  unfold ordBy PySem.W.sortLe keyL keyT
  simp only [keyToks]
theorem allS_perm (n : Nat) : (allS n).Perm (Tr.all n) := List.mergeSort_perm ..
theorem allS_mem {n : Nat} {t : T} : t ∈ allS n ↔ t ∈ Tr.all n := (allS_perm n).mem_iff
theorem all_len {n : Nat} (h2 : 2 ≤ n) (h6 : n ≤ 6) : 1 ≤ (Tr.all n).length ∧ (Tr.all n).length ≤ 945 := by
  have : n = 2 ∨ n = 3 ∨ n = 4 ∨ n = 5 ∨ n = 6 := by omega
  rcases this with rfl | rfl | rfl | rfl | rfl
  · rw [Tr.count2]; decide
  · rw [Tr.count3]; decide
  · rw [Tr.count4]; decide
  · rw [Tr.count5]; decide
  · rw [Tr.count6]; decide
theorem put_len : ∀ (t : T) (i : Int), (Tr.put t i).length = Tr.sz t
  | .lf j, i => by rw [Tr.put_lf]; rfl
  | .nd l r, i => by rw [Tr.put_nd]; simp [put_len l i, put_len r i, Tr.sz]
/-! writing out -/
structure Shw (d : D) : Prop where
  ok : d.showable = true
  nd : d.hasDict = false
  dp : d.depth ≤ 20
  sz : d.shown.length ≤ sizeLine
theorem kit_tree (t : T) : kitB (tyD (tD t)) "tuple" = some (isNd t) := by
  cases t with
  | lf i => show kitB "int" "tuple" = some false; decide +kernel
  | nd l r => show kitB "tuple" "tuple" = some true; decide +kernel
theorem et_isT {I : Inf} {c : Ct} {ds : List SD} {t : T} {x : Str} {p p1 p2 pos : Pos} (m : Mg I.mg) (hg : I.sc.names.lookup ("isinstance" : Str) = some .globalImplicit) (hg2 : I.sc.names.lookup ("tuple" : Str) = some .globalImplicit) (ha : EvE I c (.Name x p1) ds (· = tD t)) :
    EvT I c (.Call (.Name "isinstance" p) [.Name x p1, .Name "tuple" p2] [] pos) ds (· = isNd t) :=
  et_val (ev_isi (T := "tuple") (d := tD t) (r := isNd t) hg m.isinstance hg2 m.tuple (by decide +kernel) ha (kit_tree t))
theorem at_0 {a b : D} : atI [a, b] 0 = some a := rfl
theorem at_1 {a b : D} : atI [a, b] 1 = some b := rfl
end K8


set_option Elab.async false
set_option maxRecDepth 100000
set_option exponentiation.threshold 2000
set_option linter.all false
set_option maxHeartbeats 1000000
namespace K8
open PySem L2 Dl
local macro_rules | `(tactic| walk_at "vis") => `(tactic| first | exact Or.inl rfl | exact Or.inr (Or.inl rfl) | exact Or.inr (Or.inr rfl))
local macro_rules | `(tactic| walk_at "sto") => `(tactic| first | exact ⟨rfl, Or.inl rfl, Or.inl rfl⟩ | exact ⟨rfl, Or.inl rfl, Or.inr rfl⟩ | exact ⟨rfl, Or.inr rfl, Or.inl rfl⟩)
local macro_rules | `(tactic| walk_at "var") => `(tactic| first
  | exact ev_var 0 rfl (by walk_at "vis") rfl | exact ev_var 1 rfl (by walk_at "vis") rfl | exact ev_var 2 rfl (by walk_at "vis") rfl | exact ev_var 3 rfl (by walk_at "vis") rfl
  | exact ev_var 4 rfl (by walk_at "vis") rfl | exact ev_var 5 rfl (by walk_at "vis") rfl | exact ev_var 6 rfl (by walk_at "vis") rfl | exact ev_var 7 rfl (by walk_at "vis") rfl
  | exact ev_var 8 rfl (by walk_at "vis") rfl | exact ev_var 9 rfl (by walk_at "vis") rfl | exact ev_var 10 rfl (by walk_at "vis") rfl | exact ev_var 11 rfl (by walk_at "vis") rfl
  | exact ev_var 12 rfl (by walk_at "vis") rfl | exact ev_var 13 rfl (by walk_at "vis") rfl | exact ev_var 14 rfl (by walk_at "vis") rfl | exact ev_var 15 rfl (by walk_at "vis") rfl)

local macro_rules | `(tactic| walk_at "ev") => `(tactic| first
  | exact ev_int | exact ev_bl | exact ev_str | exact ev_non
  | walk_at "var"
  | (refine ev_neg ?_ <;> walk_at "ev")
  | (refine ev_add ?_ ?_ <;> walk_at "ev")
  | (refine ev_sub ?_ ?_ <;> walk_at "ev"))

local macro_rules | `(tactic| walk_at "blk") => `(tactic| (dsimp only; decide +kernel))
open PySem.W (alike alikeAll AllAlike Sortable)
section
variable {P : Program} {w : World} {K : Frag} {mg : Str → Option Value} {base : Heap} {k : Nat} {f : Addr} {fd : FuncData}

/-! is_integer(thing) -/
abbrev sIi : Stmt := top 5
theorem scIi : FnScope ["thing"] ["thing"] (defScope sIi) := ⟨rfl, rfl, rfl, by decide +kernel, rfl, by decide +kernel, by decide +kernel⟩
def pcIi : List AD → (D → Prop) → Prop := fun ads R => ∃ x : Int, ads = [.dat (.int x)] ∧ R = (· = .bool true)
theorem ok_Ii (m : Mg mg) (F : Fun K "is_integer" "is_integer" sIi f fd) : FnOk P w K mg base CX0 (k + 1) f fd ["thing"] (spD K pcIi) := by
  refine fn_mkD F scIi (fun ads R h => by obtain ⟨_, rfl, _⟩ := h; rfl) fun c ads R h hz => ?_
  obtain ⟨x, rfl, rfl⟩ := h
  exact run_one (rs_ret (ev_and (x := true) (y := true) (ev_isi (T := "int") (d := .int x) (r := true) rfl m.isinstance rfl m.int (by decide +kernel) (by walk_at "var") (by show kitB "int" "int" = _; decide +kernel)) (fun _ =>
    ev_one ((ev_not (x := false) (ev_isi (T := "bool") (d := .int x) (r := false) rfl m.isinstance rfl m.bool (by decide +kernel) (by walk_at "var") (by show kitB "int" "bool" = _; decide +kernel)))))) rfl)

/-! is_between(thing, low, high) -/
abbrev sIb : Stmt := top 6
theorem scIb : FnScope ["thing", "low", "high"] ["thing", "low", "high"] (defScope sIb) := ⟨rfl, rfl, rfl, by decide +kernel, rfl, by decide +kernel, by decide +kernel⟩
def pcIb : List AD → (D → Prop) → Prop := fun ads R => ∃ x lo hi : Int, ads = [.dat (.int x), .dat (.int lo), .dat (.int hi)] ∧ R = (· = .bool (decide (lo ≤ x) && decide (x ≤ hi)))
theorem ok_Ib (m : Mg mg) (F : Fun K "is_between" "is_between" sIb f fd) (hIi : Has P w K mg base k "is_integer" (spD K pcIi)) : FnOk P w K mg base CX0 (k + 1) f fd ["thing", "low", "high"] (spD K pcIb) := by
  refine fn_mkD F scIb (fun ads R h => by obtain ⟨_, _, _, rfl, _⟩ := h; rfl) fun c ads R h hz => ?_
  obtain ⟨x, lo, hi, rfl, rfl⟩ := h
  refine run_one (rs_ret (ev_and (x := true) (y := decide (lo ≤ x) && decide (x ≤ hi)) (ev_callD (PA := (· = [.dat (.int x)])) (Pc := pcIi) ⟨hIi⟩ rfl (ed_dat (by walk_at "var") ed_nil) (fun l hl => ⟨_, ⟨x, hl, rfl⟩, fun d hd => hd⟩)) (fun _ =>
    ev_one (ev_chainI (g := fun i j => decide (i ≤ j)) (g' := fun i j => decide (i ≤ j)) (fun _ => op_le) (fun _ => op_le) rfl (by walk_at "var") (by walk_at "var") (by walk_at "var")))) rfl)

/-! demand_many(n) -/
abbrev sDm : Stmt := top 10
theorem scDm : FnScope ["n"] ["n"] (defScope sDm) := ⟨rfl, rfl, rfl, by decide +kernel, rfl, by decide +kernel, by decide +kernel⟩
def pcDm : List AD → (D → Prop) → Prop := fun ads R => ∃ n : Nat, ads = [.dat (.int (n : Nat))] ∧ 2 ≤ n ∧ n ≤ 6 ∧ R = (· = .none)
theorem ok_Dm (m : Mg mg) (hLI : ∃ t, mg "LEAST_ITEMS" = some (.int 2 t)) (hMI : ∃ t, mg "MOST_ITEMS" = some (.int 6 t)) (F : Fun K "demand_many" "demand_many" sDm f fd) (hIb : Has P w K mg base k "is_between" (spD K pcIb)) : FnOk P w K mg base CX0 (k + 1) f fd ["n"] (spD K pcDm) := by
  refine fn_mkD F scDm (fun ads R h => by obtain ⟨_, rfl, _⟩ := h; rfl) fun c ads R h hz => ?_
  obtain ⟨n, rfl, h2, h6, rfl⟩ := h
  obtain ⟨t1, hLI⟩ := hLI
  obtain ⟨t2, hMI⟩ := hMI
  exact run_one (rs_if (PT := (· = false)) (et_not (b := true) (et_val (ev_callD (PA := (· = [.dat (.int (n : Nat)), .dat (.int 2), .dat (.int 6)])) (P := (· = .bool true)) (Pc := pcIb) ⟨hIb⟩ rfl (ed_dat (by walk_at "var") (ed_dat (ev_globI rfl hLI) (ed_dat (ev_globI rfl hMI) ed_nil))) (fun l hl => ⟨_, ⟨_, _, _, hl, rfl⟩, fun d hd => by
    rw [hd, decide_eq_true (show (2 : Int) ≤ (n : Nat) by omega), decide_eq_true (show ((n : Nat) : Int) ≤ 6 by omega)]; rfl⟩)))) (fun h => by cases h) (fun _ => run_nil rfl))

/-! is_tree(n, thing) -/
abbrev sIt : Stmt := top 11
theorem scIt : FnScope ["n", "thing", "leaves", "waiting", "_", "part"] ["n", "thing"] (defScope sIt) := ⟨rfl, rfl, rfl, by decide +kernel, rfl, by decide +kernel, by decide +kernel⟩
def pcIt : List AD → (D → Prop) → Prop := fun ads R => ∃ (n : Nat) (t : T), ads = [.dat (.int (n : Nat)), .dat (tD t)] ∧ 2 ≤ n ∧ n ≤ 6 ∧ (Tr.lv t).Perm (Tr.upto n) ∧ R = (· = .bool true)
theorem sz_pos (t : T) : 1 ≤ Tr.sz t := by cases t <;> simp [Tr.sz]
theorem intsD_upto (n : Nat) : intsD 0 n = (Tr.upto n).map PyData.int := by
  unfold intsD Tr.upto
  rw [List.map_map]
  refine List.map_congr_left fun i _ => ?_
  show PyData.int (0 + (i : Nat)) = _
  rw [Int.zero_add]; rfl
theorem upto_pw (n : Nat) : (Tr.upto n).Pairwise (· ≤ ·) := by
  unfold Tr.upto
  rw [List.pairwise_map]
  exact (List.pairwise_lt_range (n := n)).imp fun h => by omega
theorem ok_It (m : Mg mg) (F : Fun K "is_tree" "is_tree" sIt f fd) (hDm : Has P w K mg base k "demand_many" (spD K pcDm)) (hIb : Has P w K mg base k "is_between" (spD K pcIb)) : FnOk P w K mg base CX0 (k + 1) f fd ["n", "thing"] (spD K pcIt) := by
  refine fn_mkD F scIt (fun ads R h => by obtain ⟨_, _, rfl, _⟩ := h; rfl) fun c ads R h hz => ?_
  obtain ⟨n, t, rfl, h2, h6, hv, rfl⟩ := h
  have hlen := len_of hv
  have hsz := Tr.sz_lv t
  refine run_to (rs_expr (ev_callD (PA := (· = [.dat (.int (n : Nat))])) (P := (· = .none)) (Pc := pcDm) ⟨hDm⟩ rfl (ed_dat (by walk_at "var") ed_nil) (fun l hl => ⟨_, ⟨n, hl, h2, h6, rfl⟩, fun d hd => hd⟩)) rfl) ?_
  refine run_to (ds1 := [.dat (.int (n : Nat)), .dat (tD t), .own [], .un, .un, .un]) (rs_setF (i := 2) (by walk_at "sto") (ef_lst ea_nil (fun l hl => by subst hl; show 0 ≤ 100000; decide)) (fun l hl => by subst hl; rfl)) ?_
  refine run_to (ds1 := [.dat (.int (n : Nat)), .dat (tD t), .own [], .own [tD t], .un, .un]) (rs_setF (i := 3) (PL := (· = [tD t])) (by walk_at "sto") (ef_lst (ea_cons (by walk_at "var") ea_nil) (fun l hl => by subst hl; show 1 ≤ 100000; decide)) (fun l hl => by subst hl; rfl)) ?_
  refine run_cons (Mid := fun ds' => ∃ (ls : List Int) (z5 z6 : SD), ds' = [.dat (.int (n : Nat)), .dat (tD t), .own (ls.map PyData.int), .own [], z5, z6] ∧ ls.Perm (Tr.upto n)) (rs_for (items := intsD 0 (2 * (n : Int) - 1).toNat) (wk_range1 rfl m.range (ev_sub (ev_to (ev_mulS (p := (· = 2)) (q := (· = (n : Int))) (r := (· = 2 * (n : Int))) (ev_int.imp isI) ((ev_var 0 rfl (by walk_at "vis") rfl).imp isI) (fun i j hi hj => .inl ⟨by omega, by omega⟩) (fun i j hi hj => by rw [hi, hj])) isI') ev_int) (by omega) (by omega)) (tg_name (i := 4) (by walk_at "sto"))
    (fun i ds' => ∃ (ls : List Int) (ws : List T) (z5 z6 : SD), ds' = [.dat (.int (n : Nat)), .dat (tD t), .own (ls.map PyData.int), .own (ws.map tD), z5, z6] ∧ (ls ++ ws.flatMap Tr.lv).Perm (Tr.upto n) ∧ (ws.map Tr.sz).sum + i = 2 * n - 1)
    ⟨[], [t], _, _, rfl, by simpa using hv, by simp; omega⟩ ?_ ?_) ?_
  · rintro i d ds' hi ⟨ls, ws, z5, z6, rfl, hp, hs⟩
    obtain ⟨hilt, rfl⟩ := intsD_get hi
    refine ⟨_, rfl, ?_⟩
    have hne : ws ≠ [] := by rintro rfl; simp at hs; omega
    obtain ⟨ws', s, rfl⟩ : ∃ ws' s, ws = ws' ++ [s] := ⟨_, _, (List.dropLast_concat_getLast hne).symm⟩
    rw [List.map_append, List.sum_append] at hs
    rw [List.flatMap_append] at hp
    simp only [List.map_cons, List.map_nil, List.sum_cons, List.sum_nil, List.flatMap_cons, List.flatMap_nil, List.append_nil, Nat.add_zero] at hs hp
    have hln := hp.length_eq
    have hup : (Tr.upto n).length = n := by simp [Tr.upto]
    rw [List.length_append, hup] at hln
    have hsum : ∀ us : List T, us.length ≤ (us.map Tr.sz).sum := fun us => by
      induction us with
      | nil => simp
      | cons u us ih => have := sz_pos u; simp only [List.map_cons, List.sum_cons, List.length_cons]; omega
    have hws := hsum ws'
    have hpos := sz_pos s
    refine run_to (ds1 := [.dat (.int (n : Nat)), .dat (tD t), .own (ls.map PyData.int), .own ((ws' ++ [s]).map tD), .dat (.int (0 + (i : Nat))), z6]) (rs_if (PT := (· = false)) (et_as (et_not (et_truO (i := 3) (l := (ws' ++ [s]).map tD) rfl (by walk_at "vis") rfl)) (by simp)) (fun h => by cases h) (fun _ => run_nil rfl)) ?_
    refine run_to (ds1 := [.dat (.int (n : Nat)), .dat (tD t), .own (ls.map PyData.int), .own (ws'.map tD), .dat (.int (0 + (i : Nat))), .dat (tD s)]) (rs_popSet (i := 3) (iy := 5) (l := ws'.map tD) (d := tD s) rfl (by walk_at "vis") (by simp) (by walk_at "sto") rfl) ?_
    cases s with
    | lf j =>
      have hj : j ∈ Tr.upto n := hp.mem_iff.mp (by simp [Tr.lv])
      have hj2 := Tr.upto_mem.mp hj
      refine run_one (rs_if (PT := (· = false)) (et_of (ew_andP (x := false) (et_isT (t := .lf j) m rfl rfl (by walk_at "var")) (fun h => by cases h) (fun _ => rfl))) (fun h => by cases h) (fun _ => ?_))
      refine run_one (rs_if (PT := (· = true)) (et_val (ev_callD (PA := (· = [.dat (.int j), .dat (.int 0), .dat (.int ((n : Nat) - 1))])) (P := (· = .bool true)) (Pc := pcIb) ⟨hIb⟩ rfl (ed_dat (by walk_at "var") (ed_dat ev_int (ed_dat (ev_sub (by walk_at "var") ev_int) ed_nil))) (fun l hl => ⟨_, ⟨_, _, _, hl, rfl⟩, fun d hd => by
        rw [hd, decide_eq_true hj2.1, decide_eq_true (show j ≤ ((n : Nat) : Int) - 1 by omega)]; rfl⟩))) (fun _ => ?_) (fun h => by cases h))
      refine run_one (rs_append (i := 2) (P := (· = .int j)) rfl (by walk_at "vis") rfl (by rw [List.length_map]; show _ < 100000; omega) (by walk_at "var") (fun d hd => ?_))
      subst hd
      refine ⟨ls ++ [j], ws', _, _, by rw [List.map_append]; rfl, ?_, by simp only [Tr.sz] at hs; omega⟩
      refine List.Perm.trans ?_ hp
      rw [List.append_assoc]
      exact List.Perm.append_left _ (by simp only [Tr.lv]; exact List.perm_append_comm)
    | nd a b =>
      refine run_one (rs_if (PT := (· = true)) (et_as (et_of (ew_and (x := true) (y := true) (et_isT (t := .nd a b) m rfl rfl (by walk_at "var")) (fun _ => ew_and1 (et_as (et_eqI (i := (2 : Nat)) (j := 2) (ev_lenT (l := [tD a, tD b]) rfl m.len (by walk_at "var")) ev_int) (by decide))))) rfl) (fun _ => ?_) (fun h => by cases h))
      refine run_one (rs_extend (i := 3) (l := ws'.map tD) (m := [tD a, tD b]) rfl (by walk_at "vis") rfl (by rw [List.length_map]; show _ + 2 ≤ 100000; omega) (by walk_at "var") ?_)
      refine ⟨ls, ws' ++ [a, b], _, _, by rw [List.map_append]; rfl, ?_, ?_⟩
      · rw [List.flatMap_append]
        simpa [Tr.lv] using hp
      · rw [List.map_append, List.sum_append]
        simp only [Tr.sz] at hs
        simp only [List.map_cons, List.map_nil, List.sum_cons, List.sum_nil]
        omega
  · rintro ds' ⟨ls, ws, z5, z6, rfl, hp, hs⟩
    rw [intsD_length] at hs
    have hw : ws = [] := by
      cases ws with
      | nil => rfl
      | cons u us => have := sz_pos u; simp only [List.map_cons, List.sum_cons] at hs; omega
    subst hw
    exact ⟨ls, z5, z6, rfl, by simpa using hp⟩
  · rintro ds' ⟨ls, z5, z6, rfl, hp⟩
    have hll : ls.length = n := by rw [hp.length_eq]; simp [Tr.upto]
    have es : Tr.srt ls = Tr.upto n := (Tr.srt_congr hp).trans (Tr.srt_id (upto_pw n))
    refine run_freeze (i := 3) (l := []) rfl (run_freeze (i := 2) (l := ls.map PyData.int) rfl ?_)
    refine run_one (rs_ret (ev_as (ev_and (x := true) (y := true) (ev_notL (l := []) (by walk_at "var")) (fun _ => ev_one (ev_as (ev_eq (d := .list ((Tr.srt ls).map PyData.int)) (e := .list (intsD 0 n)) (ev_as (ev_lc (ef_sorted (bs := ls) (enc := PyData.int) (key := PyData.int) rfl m.sorted (io_ints ls) (by rw [hll]; show n ≤ 100000; omega) (fun b _ => by simp [PyData.depth]) (ev_to (P := (· = .list (ls.map PyData.int))) (by walk_at "var") (fun d hd => .inl hd)))) (by rw [srt_ints])) (ev_lc (ef_listRg rfl m.list rfl m.range (by walk_at "var") (by omega))) (shaped_ints _) (by rw [intsD_upto]; exact shaped_ints _)) ?_))) rfl) rfl)
    rw [es, intsD_upto]
    simp only [PyData.eqv, eqv_intsA, decide_true]

/-! demand_tree(n, tree) -/
abbrev sDt : Stmt := top 12
theorem scDt : FnScope ["n", "tree"] ["n", "tree"] (defScope sDt) := ⟨rfl, rfl, rfl, by decide +kernel, rfl, by decide +kernel, by decide +kernel⟩
def pcDt : List AD → (D → Prop) → Prop := fun ads R => ∃ (n : Nat) (t : T), ads = [.dat (.int (n : Nat)), .dat (tD t)] ∧ 2 ≤ n ∧ n ≤ 6 ∧ (Tr.lv t).Perm (Tr.upto n) ∧ R = (· = .none)
theorem ok_Dt (m : Mg mg) (F : Fun K "demand_tree" "demand_tree" sDt f fd) (hIt : Has P w K mg base k "is_tree" (spD K pcIt)) : FnOk P w K mg base CX0 (k + 1) f fd ["n", "tree"] (spD K pcDt) := by
  refine fn_mkD F scDt (fun ads R h => by obtain ⟨_, _, rfl, _⟩ := h; rfl) fun c ads R h hz => ?_
  obtain ⟨n, t, rfl, h2, h6, hv, rfl⟩ := h
  exact run_one (rs_if (PT := (· = false)) (et_not (b := true) (et_val (ev_callD (PA := (· = [.dat (.int (n : Nat)), .dat (tD t)])) (P := (· = .bool true)) (Pc := pcIt) ⟨hIt⟩ rfl (ed_dat (by walk_at "var") (ed_dat (by walk_at "var") ed_nil)) (fun l hl => ⟨_, ⟨n, t, hl, h2, h6, hv, rfl⟩, fun d hd => hd⟩)))) (fun h => by cases h) (fun _ => run_nil rfl))

/-! leaves_of(tree) -/
abbrev sLo : Stmt := top 13
theorem scLo : FnScope ["tree"] ["tree"] (defScope sLo) := ⟨rfl, rfl, rfl, by decide +kernel, rfl, by decide +kernel, by decide +kernel⟩
def pcLo (j : Nat) : List AD → (D → Prop) → Prop := fun ads R => ∃ t : T, ads = [.dat (tD t)] ∧ Tr.ht t ≤ j ∧ (Tr.lv t).length ≤ 100 ∧ R = (· = rowT (Tr.lo t))
theorem lo_len (t : T) : (Tr.lo t).length = (Tr.lv t).length := (Tr.lo_perm t).length_eq
theorem ok_Lo (m : Mg mg) (F : Fun K "leaves_of" "leaves_of" sLo f fd) (j : Nat) (rec_ : ∀ i, i + 1 = j → Has P w K mg base k "leaves_of" (spD K (pcLo i))) : FnOk P w K mg base CX0 (k + 1) f fd ["tree"] (spD K (pcLo j)) := by
  refine fn_mkD F scLo (fun ads R h => by obtain ⟨_, rfl, _⟩ := h; rfl) fun c ads R h hz => ?_
  obtain ⟨t, rfl, hh, hl, rfl⟩ := h
  cases t with
  | lf i =>
    refine run_to (rs_if (PT := (· = false)) (et_isT (t := .lf i) m rfl rfl (by walk_at "var")) (fun h => by cases h) (fun _ => run_nil rfl)) ?_
    exact run_one (rs_ret (ev_as (ev_tup (ea_cons (by walk_at "var") ea_nil) (hl := by show 1 ≤ 100000; decide)) (by rw [Tr.lo_lf]; rfl)) rfl)
  | nd l r =>
    simp only [Tr.ht] at hh
    obtain ⟨i, rfl⟩ : ∃ i, j = i + 1 := ⟨j - 1, by omega⟩
    have hrec := rec_ i rfl
    simp only [Tr.lv, List.length_append] at hl
    have hll := lo_len l; have hlr := lo_len r
    refine run_cons (Mid := fun _ => False) (rs_if (PT := (· = true)) (et_isT (t := .nd l r) m rfl rfl (by walk_at "var")) (fun _ => ?_) (fun h => by cases h)) (fun _ h => h.elim)
    refine run_one (rs_ret (ev_as (ev_tupleL (l := (Tr.srt (Tr.lo l ++ Tr.lo r)).map PyData.int) rfl m.tuple (ev_as (ev_lc (ef_sorted (bs := Tr.lo l ++ Tr.lo r) (enc := PyData.int) (key := PyData.int) rfl m.sorted (io_ints _) (by rw [List.length_append]; show _ ≤ 100000; omega) (fun b _ => by simp [PyData.depth]) (ev_to (P := (· = .tuple ((Tr.lo l).map PyData.int ++ (Tr.lo r).map PyData.int)))
      (ev_catT (ev_callD (PA := (· = [.dat (tD l)])) (Pc := pcLo i) ⟨hrec⟩ rfl (ed_dat (ev_ixT (l := [tD l, tD r]) (by walk_at "var") ev_int rfl) ed_nil) (fun a ha => ⟨_, ⟨l, ha, by omega, by omega, rfl⟩, fun d hd => hd⟩)) (ev_callD (PA := (· = [.dat (tD r)])) (Pc := pcLo i) ⟨hrec⟩ rfl (ed_dat (ev_ixT (l := [tD l, tD r]) (by walk_at "var") ev_int rfl) ed_nil) (fun a ha => ⟨_, ⟨r, ha, by omega, by omega, rfl⟩, fun d hd => hd⟩)) (by rw [List.length_map, List.length_map]; show _ ≤ 100000; omega))
      (fun d hd => .inr (by rw [hd, List.map_append]))))) (by rw [srt_ints]))) (by rw [Tr.lo_nd]; rfl)) rfl)

/-! lots_within(tree) -/
abbrev sLw : Stmt := top 15
theorem scLw : FnScope ["tree"] ["tree"] (defScope sLw) := ⟨rfl, rfl, rfl, by decide +kernel, rfl, by decide +kernel, by decide +kernel⟩
def pcLw (j : Nat) : List AD → (D → Prop) → Prop := fun ads R => ∃ t : T, ads = [.dat (tD t)] ∧ Tr.ht t ≤ j ∧ (Tr.lv t).length ≤ 100 ∧ R = (· = .list ((Tr.lots t).map rowT))
theorem ok_Lw (m : Mg mg) (F : Fun K "lots_within" "lots_within" sLw f fd) (j : Nat) (hLo : Has P w K mg base k "leaves_of" (spD K (pcLo j))) (rec_ : ∀ i, i + 1 = j → Has P w K mg base k "lots_within" (spD K (pcLw i))) : FnOk P w K mg base CX0 (k + 1) f fd ["tree"] (spD K (pcLw j)) := by
  refine fn_mkD F scLw (fun ads R h => by obtain ⟨_, rfl, _⟩ := h; rfl) fun c ads R h hz => ?_
  obtain ⟨t, rfl, hh, hl, rfl⟩ := h
  cases t with
  | lf i =>
    refine run_to (rs_if (PT := (· = false)) (et_isT (t := .lf i) m rfl rfl (by walk_at "var")) (fun h => by cases h) (fun _ => run_nil rfl)) ?_
    exact run_one (rs_ret (ev_as (ev_lst ea_nil (hl := by show 0 ≤ 100000; decide)) rfl) rfl)
  | nd l r =>
    have hh0 := hh
    simp only [Tr.ht] at hh
    obtain ⟨i, rfl⟩ : ∃ i, j = i + 1 := ⟨j - 1, by omega⟩
    have hrec := rec_ i rfl
    have hl0 := hl
    simp only [Tr.lv, List.length_append] at hl
    have hlots := Tr.lots_len (.nd l r)
    refine run_cons (Mid := fun _ => False) (rs_if (PT := (· = true)) (et_isT (t := .nd l r) m rfl rfl (by walk_at "var")) (fun _ => ?_) (fun h => by cases h)) (fun _ h => h.elim)
    refine run_one (rs_ret (ev_lstP (R := (· = (Tr.lots (.nd l r)).map rowT)) (ea_consP (P := (· = rowT (Tr.lo (.nd l r)))) (ev_callD (PA := (· = [.dat (tD (.nd l r))])) (Pc := pcLo (i + 1)) ⟨hLo⟩ rfl (ed_dat (by walk_at "var") ed_nil) (fun a ha => ⟨_, ⟨.nd l r, ha, hh0, hl0, rfl⟩, fun d hd => hd⟩))
      (ea_star (m := (Tr.lots l).map rowT) (ev_callD (PA := (· = [.dat (tD l)])) (P := (· = .list ((Tr.lots l).map rowT))) (Pc := pcLw i) ⟨hrec⟩ rfl (ed_dat (ev_ixT (l := [tD l, tD r]) (by walk_at "var") ev_int rfl) ed_nil) (fun a ha => ⟨_, ⟨l, ha, by omega, by omega, rfl⟩, fun d hd => hd⟩)) (.inl rfl)
        (ea_star (m := (Tr.lots r).map rowT) (ev_callD (PA := (· = [.dat (tD r)])) (P := (· = .list ((Tr.lots r).map rowT))) (Pc := pcLw i) ⟨hrec⟩ rfl (ed_dat (ev_ixT (l := [tD l, tD r]) (by walk_at "var") ev_int rfl) ed_nil) (fun a ha => ⟨_, ⟨r, ha, by omega, by omega, rfl⟩, fun d hd => hd⟩)) (.inl rfl) ea_nil))
      (fun d a hd ha => by
        obtain ⟨b, ⟨b2, rfl, rfl⟩, rfl⟩ := ha
        rw [hd]; simp [Tr.lots]))
      (fun a ha => by rw [ha, List.length_map]; show _ ≤ 100000; omega) (fun a ha => by rw [ha])) rfl)

/-! lots_of(n, tree) -/
abbrev sLs : Stmt := top 14
theorem scLs : FnScope ["n", "tree"] ["n", "tree"] (defScope sLs) := ⟨rfl, rfl, rfl, by decide +kernel, rfl, by decide +kernel, by decide +kernel⟩
def pcLs : List AD → (D → Prop) → Prop := fun ads R => ∃ (n : Nat) (t : T), ads = [.dat (.int (n : Nat)), .dat (tD t)] ∧ 2 ≤ n ∧ n ≤ 6 ∧ (Tr.lv t).Perm (Tr.upto n) ∧ R = (· = keyT t)
theorem ok_Ls (m : Mg mg) (F : Fun K "lots_of" "lots_of" sLs f fd) (hDt : Has P w K mg base k "demand_tree" (spD K pcDt)) (hLw : Has P w K mg base k "lots_within" (spD K (pcLw 5))) : FnOk P w K mg base CX0 (k + 1) f fd ["n", "tree"] (spD K pcLs) := by
  refine fn_mkD F scLs (fun ads R h => by obtain ⟨_, _, rfl, _⟩ := h; rfl) fun c ads R h hz => ?_
  obtain ⟨n, t, rfl, h2, h6, hv, rfl⟩ := h
  have hlen := len_of hv
  have hht := Tr.ht_lv t
  have hlots := Tr.lots_len t
  refine run_to (rs_expr (ev_callD (PA := (· = [.dat (.int (n : Nat)), .dat (tD t)])) (P := (· = .none)) (Pc := pcDt) ⟨hDt⟩ rfl (ed_dat (by walk_at "var") (ed_dat (by walk_at "var") ed_nil)) (fun l hl => ⟨_, ⟨n, t, hl, h2, h6, hv, rfl⟩, fun d hd => hd⟩)) rfl) ?_
  exact run_one (rs_ret (ev_tupleL (l := (key t).map rowT) rfl m.tuple (ev_lc (ef_sorted (bs := Tr.lots t) (enc := rowT) (key := rowT) rfl m.sorted (io_rows fun L hL => (Tr.lots_sub t hL).2) (by show _ ≤ 100000; omega) (fun b _ => Nat.le_trans (dpt_row b) (by decide)) (ev_to (P := (· = .list ((Tr.lots t).map rowT)))
    (ev_callD (PA := (· = [.dat (tD t)])) (Pc := pcLw 5) ⟨hLw⟩ rfl (ed_dat (by walk_at "var") ed_nil) (fun a ha => ⟨_, ⟨t, ha, by omega, by omega, rfl⟩, fun d hd => hd⟩)) (fun d hd => .inl hd))))) rfl)

/-! made_plain(tree) -/
abbrev sMp : Stmt := top 17
theorem scMp : FnScope ["tree", "near", "far"] ["tree"] (defScope sMp) := ⟨rfl, rfl, rfl, by decide +kernel, rfl, by decide +kernel, by decide +kernel⟩
def pcMp (j : Nat) : List AD → (D → Prop) → Prop := fun ads R => ∃ t : T, ads = [.dat (tD t)] ∧ Tr.ht t ≤ j ∧ (Tr.lv t).length ≤ 100 ∧ (Tr.lv t).Nodup ∧ R = (· = tD (Tr.pl t))
theorem ht_pl : ∀ t : T, Tr.ht (Tr.pl t) = Tr.ht t
  | .lf _ => rfl
  | .nd l r => by
    have h1 := ht_pl l; have h2 := ht_pl r
    simp only [Tr.pl]
    split <;> simp only [Tr.ht, h1, h2]
    omega
theorem lt_lo {l r : T} (h : (Tr.lv (.nd l r)).Nodup) : HT.lexLt (Tr.lo (Tr.pl l)) (Tr.lo (Tr.pl r)) = decide (Tr.mn l < Tr.mn r) := by
  rw [Tr.lo_pl, Tr.lo_pl]
  obtain ⟨a, ha⟩ := Tr.lo_head l
  obtain ⟨b, hb⟩ := Tr.lo_head r
  rw [ha, hb]
  have := Tr.mn_ne h
  unfold HT.lexLt
  simp [this]
theorem ok_Mp (m : Mg mg) (F : Fun K "made_plain" "made_plain" sMp f fd) (j : Nat) (hLo : Has P w K mg base k "leaves_of" (spD K (pcLo j))) (rec_ : ∀ i, i + 1 = j → Has P w K mg base k "made_plain" (spD K (pcMp i))) : FnOk P w K mg base CX0 (k + 1) f fd ["tree"] (spD K (pcMp j)) := by
  refine fn_mkD F scMp (fun ads R h => by obtain ⟨_, rfl, _⟩ := h; rfl) fun c ads R h hz => ?_
  obtain ⟨t, rfl, hh, hl, hn, rfl⟩ := h
  cases t with
  | lf i =>
    exact run_cons (Mid := fun _ => False) (rs_if (PT := (· = true)) (et_not (b := false) (et_isT (t := .lf i) m rfl rfl (by walk_at "var"))) (fun _ => run_one (rs_ret (by walk_at "var") rfl)) (fun h => by cases h)) (fun _ h => h.elim)
  | nd l r =>
    simp only [Tr.ht] at hh
    obtain ⟨i, rfl⟩ : ∃ i, j = i + 1 := ⟨j - 1, by omega⟩
    have hrec := rec_ i rfl
    have hd := Tr.disj hn
    simp only [Tr.lv, List.length_append] at hl
    have e1 := (Tr.lv_pl l).length_eq; have e2 := (Tr.lv_pl r).length_eq
    have e3 := ht_pl l; have e4 := ht_pl r
    refine run_to (rs_if (PT := (· = false)) (et_not (b := true) (et_isT (t := .nd l r) m rfl rfl (by walk_at "var"))) (fun h => by cases h) (fun _ => run_nil rfl)) ?_
    refine run_to (ds1 := [.dat (tD (.nd l r)), .dat (tD (Tr.pl l)), .dat (tD (Tr.pl r))]) (rs_par (i := 1) (j := 2) (PA := (· = tD (Tr.pl l))) (PB := (· = tD (Tr.pl r))) rfl rfl (by decide) rfl rfl
      (ev_callD (PA := (· = [.dat (tD l)])) (Pc := pcMp i) ⟨hrec⟩ rfl (ed_dat (ev_ixT (l := [tD l, tD r]) (by walk_at "var") ev_int rfl) ed_nil) (fun a ha => ⟨_, ⟨l, ha, by omega, by omega, hd.1, rfl⟩, fun d hd => hd⟩))
      (ev_callD (PA := (· = [.dat (tD r)])) (Pc := pcMp i) ⟨hrec⟩ rfl (ed_dat (ev_ixT (l := [tD l, tD r]) (by walk_at "var") ev_int rfl) ed_nil) (fun a ha => ⟨_, ⟨r, ha, by omega, by omega, hd.2.1, rfl⟩, fun d hd => hd⟩)) (fun d e hd he => by subst hd; subst he; rfl)) ?_
    refine run_one (rs_ret (ev_if (PT := (· = decide (Tr.mn l < Tr.mn r))) (et_as (et_ltT (ns := Tr.lo (Tr.pl l)) (ms := Tr.lo (Tr.pl r))
      (ev_callD (PA := (· = [.dat (tD (Tr.pl l))])) (Pc := pcLo (i + 1)) ⟨hLo⟩ rfl (ed_dat (by walk_at "var") ed_nil) (fun a ha => ⟨_, ⟨Tr.pl l, ha, by omega, by omega, rfl⟩, fun d hd => hd⟩))
      (ev_callD (PA := (· = [.dat (tD (Tr.pl r))])) (Pc := pcLo (i + 1)) ⟨hLo⟩ rfl (ed_dat (by walk_at "var") ed_nil) (fun a ha => ⟨_, ⟨Tr.pl r, ha, by omega, by omega, rfl⟩, fun d hd => hd⟩))) (lt_lo hn))
      (fun h => ev_as (ev_tup (ea_cons (by walk_at "var") (ea_cons (by walk_at "var") ea_nil)) (hl := by show 2 ≤ 100000; decide)) (by
        have := of_decide_eq_true h.symm
        simp only [Tr.pl]; rw [if_pos this]; rfl))
      (fun h => ev_as (ev_tup (ea_cons (by walk_at "var") (ea_cons (by walk_at "var") ea_nil)) (hl := by show 2 ≤ 100000; decide)) (by
        have := of_decide_eq_false h.symm
        simp only [Tr.pl]; rw [if_neg this]; rfl))) rfl)

/-! plain_tree(n, tree) -/
abbrev sPt : Stmt := top 16
theorem scPt : FnScope ["n", "tree"] ["n", "tree"] (defScope sPt) := ⟨rfl, rfl, rfl, by decide +kernel, rfl, by decide +kernel, by decide +kernel⟩
def pcPt : List AD → (D → Prop) → Prop := fun ads R => ∃ (n : Nat) (t : T), ads = [.dat (.int (n : Nat)), .dat (tD t)] ∧ 2 ≤ n ∧ n ≤ 6 ∧ (Tr.lv t).Perm (Tr.upto n) ∧ R = (· = tD (Tr.pl t))
theorem ok_Pt (m : Mg mg) (F : Fun K "plain_tree" "plain_tree" sPt f fd) (hDt : Has P w K mg base k "demand_tree" (spD K pcDt)) (hMp : Has P w K mg base k "made_plain" (spD K (pcMp 5))) : FnOk P w K mg base CX0 (k + 1) f fd ["n", "tree"] (spD K pcPt) := by
  refine fn_mkD F scPt (fun ads R h => by obtain ⟨_, _, rfl, _⟩ := h; rfl) fun c ads R h hz => ?_
  obtain ⟨n, t, rfl, h2, h6, hv, rfl⟩ := h
  have hlen := len_of hv
  have hht := Tr.ht_lv t
  refine run_to (rs_expr (ev_callD (PA := (· = [.dat (.int (n : Nat)), .dat (tD t)])) (P := (· = .none)) (Pc := pcDt) ⟨hDt⟩ rfl (ed_dat (by walk_at "var") (ed_dat (by walk_at "var") ed_nil)) (fun l hl => ⟨_, ⟨n, t, hl, h2, h6, hv, rfl⟩, fun d hd => hd⟩)) rfl) ?_
  exact run_one (rs_ret (ev_callD (PA := (· = [.dat (tD t)])) (Pc := pcMp 5) ⟨hMp⟩ rfl (ed_dat (by walk_at "var") ed_nil) (fun a ha => ⟨_, ⟨t, ha, by omega, by omega, nodup_of hv, rfl⟩, fun d hd => hd⟩)) rfl)

/-! trees_with(tree, item) -/
abbrev sTw : Stmt := top 19
theorem scTw : FnScope ["tree", "item", "found", "near", "far", "more"] ["tree", "item"] (defScope sTw) := ⟨rfl, rfl, rfl, by decide +kernel, rfl, by decide +kernel, by decide +kernel⟩
def pcTw (j : Nat) : List AD → (D → Prop) → Prop := fun ads R => ∃ (t : T) (x : Int), ads = [.dat (tD t), .dat (.int x)] ∧ Tr.ht t ≤ j ∧ (Tr.lv t).length ≤ 100 ∧ R = (· = .list ((Tr.put t x).map tD))
theorem sz_le (t : T) (h : (Tr.lv t).length ≤ 100) : Tr.sz t ≤ 200 := by have := Tr.sz_lv t; omega
theorem mem_tree {l : List T} {d : D} (h : d ∈ l.map tD) : ∃ t ∈ l, d = tD t := by
  obtain ⟨t, ht, rfl⟩ := List.mem_map.mp h; exact ⟨t, ht, rfl⟩
theorem ok_Tw (m : Mg mg) (F : Fun K "trees_with" "trees_with" sTw f fd) (j : Nat) (rec_ : ∀ i, i + 1 = j → Has P w K mg base k "trees_with" (spD K (pcTw i))) : FnOk P w K mg base CX0 (k + 1) f fd ["tree", "item"] (spD K (pcTw j)) := by
  refine fn_mkD F scTw (fun ads R h => by obtain ⟨_, _, rfl, _⟩ := h; rfl) fun c ads R h hz => ?_
  obtain ⟨t, x, rfl, hh, hl, rfl⟩ := h
  refine run_to (ds1 := [.dat (tD t), .dat (.int x), .own [tD (.nd t (.lf x))], .un, .un, .un]) (rs_setF (i := 2) (PL := (· = [tD (.nd t (.lf x))])) (by walk_at "sto") (ef_lst (ea_cons (ev_as (ev_tup (ea_cons (by walk_at "var") (ea_cons (by walk_at "var") ea_nil)) (hl := by show 2 ≤ 100000; decide)) rfl) ea_nil) (fun l hl => by subst hl; show 1 ≤ 100000; decide)) (fun l hl => by subst hl; rfl)) ?_
  cases t with
  | lf i =>
    refine run_to (rs_if (PT := (· = false)) (et_isT (t := .lf i) m rfl rfl (by walk_at "var")) (fun h => by cases h) (fun _ => run_nil rfl)) ?_
    exact run_one (rs_retO (i := 2) rfl (by walk_at "vis") hz rfl (by show PyData.list _ = _; rw [Tr.put_lf]; rfl))
  | nd l r =>
    simp only [Tr.ht] at hh
    obtain ⟨i, rfl⟩ : ∃ i, j = i + 1 := ⟨j - 1, by omega⟩
    have hrec := rec_ i rfl
    simp only [Tr.lv, List.length_append] at hl
    have q1 := put_len l x; have q2 := put_len r x
    have q3 := sz_le l (by omega); have q4 := sz_le r (by omega)
    refine run_cons (Mid := fun ds' => ∃ z3 z4 z5 : SD, ds' = [.dat (tD (.nd l r)), .dat (.int x), .own ((Tr.put (.nd l r) x).map tD), z3, z4, z5]) (rs_if (PT := (· = true)) (et_isT (t := .nd l r) m rfl rfl (by walk_at "var")) (fun _ => ?_) (fun h => by cases h)) ?_
    · refine run_to (ds1 := [.dat (tD (.nd l r)), .dat (.int x), .own [tD (.nd (.nd l r) (.lf x))], .dat (tD l), .dat (tD r), .un]) (rs_tup (P := (· = tD (.nd l r))) (tg_two (i := 3) (j := 4) (by walk_at "sto") (by walk_at "sto")) (by walk_at "var") (fun d hd => ⟨_, ⟨tD l, tD r, hd, rfl⟩, rfl⟩) (hw := fun X F => by have h := F.sc; revert h; generalize X.env = env; intro h; cases env; dsimp only at h; subst h; rfl)) ?_
      refine run_to (ds1 := [.dat (tD (.nd l r)), .dat (.int x), .own ([tD (.nd (.nd l r) (.lf x))] ++ (Tr.put l x).map (fun a => tD (.nd a r))), .dat (tD l), .dat (tD r), .un]) (rs_extendL (i := 2) (PL := (· = (Tr.put l x).map (fun a => tD (.nd a r)))) rfl (by walk_at "vis") rfl (ev_fresh (ef_map [("more", 5)] (items := (Tr.put l x).map tD) (fun d => .tuple [d, tD r]) (by walk_at "blk") (wk_list (ev_callD (PA := (· = [.dat (tD l), .dat (.int x)])) (Pc := pcTw i) ⟨hrec⟩ rfl (ed_dat (by walk_at "var") (ed_dat (by walk_at "var") ed_nil)) (fun a ha => ⟨_, ⟨l, x, ha, by omega, by omega, rfl⟩, fun d hd => hd⟩))) (tg_name (i := 5) (by walk_at "sto")) (by rw [List.length_map]; show _ ≤ 100000; omega) (fun d hd => ⟨_, rfl, by simp, ev_tup (ea_cons (by walk_at "var") (ea_cons (by walk_at "var") ea_nil)) (hl := by show 2 ≤ 100000; decide)⟩))
        (fun a ha => ⟨a, rfl, by rw [ha, List.map_map]; rfl⟩)) (fun a ha => by subst ha; rw [List.length_map]; show 1 + _ ≤ 100000; omega) (fun a ha => by subst ha; rfl)) ?_
      refine run_one (rs_extendL (i := 2) (PL := (· = (Tr.put r x).map (fun a => tD (.nd l a)))) rfl (by walk_at "vis") rfl (ev_fresh (ef_map [("more", 5)] (items := (Tr.put r x).map tD) (fun d => .tuple [tD l, d]) (by walk_at "blk") (wk_list (ev_callD (PA := (· = [.dat (tD r), .dat (.int x)])) (Pc := pcTw i) ⟨hrec⟩ rfl (ed_dat (by walk_at "var") (ed_dat (by walk_at "var") ed_nil)) (fun a ha => ⟨_, ⟨r, x, ha, by omega, by omega, rfl⟩, fun d hd => hd⟩))) (tg_name (i := 5) (by walk_at "sto")) (by rw [List.length_map]; show _ ≤ 100000; omega) (fun d hd => ⟨_, rfl, by simp, ev_tup (ea_cons (by walk_at "var") (ea_cons (by walk_at "var") ea_nil)) (hl := by show 2 ≤ 100000; decide)⟩))
        (fun a ha => ⟨a, rfl, by rw [ha, List.map_map]; rfl⟩)) (fun a ha => by subst ha; rw [List.length_append, List.length_map, List.length_map]; show 1 + _ + _ ≤ 100000; omega) (fun a ha => by
          subst ha
          refine ⟨.dat (tD l), .dat (tD r), .un, ?_⟩
          rw [Tr.put_nd, List.map_cons, List.map_append, List.map_map, List.map_map]
          rfl))
    · rintro ds' ⟨z3, z4, z5, rfl⟩
      exact run_one (rs_retO (i := 2) rfl (by walk_at "vis") hz rfl rfl)
end

end K8

set_option Elab.async false
set_option maxRecDepth 100000
set_option exponentiation.threshold 2000
set_option linter.all false
set_option maxHeartbeats 1000000
namespace K8
open PySem L2 Dl
local macro_rules | `(tactic| walk_at "vis") => `(tactic| first | exact Or.inl rfl | exact Or.inr (Or.inl rfl) | exact Or.inr (Or.inr rfl))
local macro_rules | `(tactic| walk_at "sto") => `(tactic| first | exact ⟨rfl, Or.inl rfl, Or.inl rfl⟩ | exact ⟨rfl, Or.inl rfl, Or.inr rfl⟩ | exact ⟨rfl, Or.inr rfl, Or.inl rfl⟩)
local macro_rules | `(tactic| walk_at "var") => `(tactic| first
  | exact ev_var 0 rfl (by walk_at "vis") rfl | exact ev_var 1 rfl (by walk_at "vis") rfl | exact ev_var 2 rfl (by walk_at "vis") rfl | exact ev_var 3 rfl (by walk_at "vis") rfl
  | exact ev_var 4 rfl (by walk_at "vis") rfl | exact ev_var 5 rfl (by walk_at "vis") rfl | exact ev_var 6 rfl (by walk_at "vis") rfl | exact ev_var 7 rfl (by walk_at "vis") rfl
  | exact ev_var 8 rfl (by walk_at "vis") rfl | exact ev_var 9 rfl (by walk_at "vis") rfl | exact ev_var 10 rfl (by walk_at "vis") rfl | exact ev_var 11 rfl (by walk_at "vis") rfl
  | exact ev_var 12 rfl (by walk_at "vis") rfl | exact ev_var 13 rfl (by walk_at "vis") rfl | exact ev_var 14 rfl (by walk_at "vis") rfl | exact ev_var 15 rfl (by walk_at "vis") rfl)

local macro_rules | `(tactic| walk_at "ev") => `(tactic| first
  | exact ev_int | exact ev_bl | exact ev_str | exact ev_non
  | walk_at "var"
  | (refine ev_neg ?_ <;> walk_at "ev")
  | (refine ev_add ?_ ?_ <;> walk_at "ev")
  | (refine ev_sub ?_ ?_ <;> walk_at "ev"))

local macro_rules | `(tactic| walk_at "blk") => `(tactic| (dsimp only; decide +kernel))
open PySem.W (alike alikeAll AllAlike Sortable)
theorem cut_drop {α : Type} (l : List α) (k : Nat) : cutD l (some (k : Int)) none = l.drop k := by
  unfold cutD
  rw [HT.sIx_nat, HT.sIx_none]
  rcases Nat.le_total k l.length with h | h
  · rw [Nat.min_eq_left h]; exact List.take_of_length_le (by rw [List.length_drop]; omega)
  · rw [Nat.min_eq_right h, Nat.sub_self, List.drop_of_length_le h]; simp
/-! writing out data of lists and tuples -/
structure Wt (d : D) (w dp : Nat) : Prop where
  ls : PyData.leavesShort 64 d = true
  wt : PyData.weight d ≤ w
  ok : d.showable = true
  nd : d.hasDict = false
  dp : d.depth ≤ dp
structure WtA (l : List D) (w dp : Nat) : Prop where
  ls : PyData.leavesShortAll 64 l = true
  wt : PyData.weightAll l ≤ w
  ok : PyData.showableAll l = true
  nd : PyData.hasDictAll l = false
  dp : PyData.depthAll l ≤ dp
theorem WtA.nil {dp : Nat} : WtA [] 0 dp := ⟨by simp [PyData.leavesShortAll], by simp [PyData.weightAll], by simp [PyData.showableAll], by simp [PyData.hasDictAll], by simp [PyData.depthAll]⟩
theorem WtA.cons {d : D} {l : List D} {w v dp : Nat} (h : Wt d w dp) (t : WtA l v dp) : WtA (d :: l) (w + 1 + v) dp := by
  refine ⟨by simp only [PyData.leavesShortAll, h.ls, t.ls, Bool.and_true], ?_, by simp only [PyData.showableAll, h.ok, t.ok, Bool.and_true], by simp only [PyData.hasDictAll, h.nd, t.nd, Bool.or_false], ?_⟩
  · have := h.wt; have := t.wt; simp only [PyData.weightAll]; omega
  · have := h.dp; have := t.dp; simp only [PyData.depthAll]; omega
theorem WtA.map {α : Type} {f : α → D} {w dp : Nat} : ∀ {l : List α}, (∀ a ∈ l, Wt (f a) w dp) → WtA (l.map f) ((w + 1) * l.length) dp
  | [], _ => WtA.nil
  | a :: l, h => by
    have := WtA.cons (h a (by simp)) (WtA.map (l := l) fun b hb => h b (by simp [hb]))
    have e : w + 1 + (w + 1) * l.length = (w + 1) * (l.length + 1) := by rw [Nat.mul_add, Nat.mul_one]; omega
    rw [e] at this
    exact this
theorem WtA.tup {l : List D} {w dp : Nat} (h : WtA l w dp) : Wt (.tuple l) w (dp + 1) := ⟨by simpa [PyData.leavesShort] using h.ls, by simpa only [PyData.weight] using h.wt, by simpa [PyData.showable] using h.ok, by simpa [PyData.hasDict] using h.nd, by have := h.dp; simp only [PyData.depth]; omega⟩
theorem WtA.lst {l : List D} {w dp : Nat} (h : WtA l w dp) : Wt (.list l) w (dp + 1) := ⟨by simpa [PyData.leavesShort] using h.ls, by simpa only [PyData.weight] using h.wt, by simpa [PyData.showable] using h.ok, by simpa [PyData.hasDict] using h.nd, by have := h.dp; simp only [PyData.depth]; omega⟩
theorem Wt.up {d : D} {w v p q : Nat} (h : Wt d w p) (h1 : w ≤ v) (h2 : p ≤ q) : Wt d v q := ⟨h.ls, Nat.le_trans h.wt h1, h.ok, h.nd, Nat.le_trans h.dp h2⟩
theorem WtA.up {d : List D} {w v p q : Nat} (h : WtA d w p) (h1 : w ≤ v) (h2 : p ≤ q) : WtA d v q := ⟨h.ls, Nat.le_trans h.wt h1, h.ok, h.nd, Nat.le_trans h.dp h2⟩
theorem wt_int {i : Int} {b dp : Nat} (hb : b ≤ 100) (h : i.natAbs < 2 ^ b) : Wt (.int i) b dp := by
  have h60 : i.natAbs < 10 ^ 60 := Nat.lt_of_lt_of_le h (Nat.le_trans (Nat.pow_le_pow_right (by decide) hb) (by decide))
  refine ⟨by simp only [PyData.leavesShort, decide_eq_true_eq]; exact len_60 h60, ?_, by have := log_60 h60; simp only [PyData.showable, decide_eq_true_eq]; omega, rfl, by simp [PyData.depth]⟩
  simp only [PyData.weight]
  split
  · omega
  · rename_i hz
    have hz' : i.natAbs ≠ 0 := fun e => hz (by simp; omega)
    have := (Nat.log2_lt hz').mpr h
    omega
theorem wt_bool {b : Bool} {w dp : Nat} : Wt (.bool b) w dp := ⟨by simp [PyData.leavesShort], by simp [PyData.weight], rfl, rfl, by simp [PyData.depth]⟩
theorem Shw.of {d : D} {w dp : Nat} (h : Wt d w dp) (hw : w ≤ 200000) (hd : dp ≤ 20) : Shw d := by
  refine ⟨h.ok, h.nd, Nat.le_trans h.dp hd, ?_⟩
  have h1 := PyData.shown_le 64 (by decide) d h.ls
  have h2 := h.wt
  rw [sizeLine_eq]; omega
theorem wt_tree : ∀ (t : T), (∀ x ∈ Tr.lv t, 0 ≤ x ∧ x < 8) → Wt (tD t) (5 * (Tr.lv t).length - 2) (Tr.ht t)
  | .lf i, h => by
    have := h i (by simp [Tr.lv])
    exact wt_int (b := 3) (by decide) (by omega)
  | .nd l r, h => by
    have h1 := wt_tree l fun x hx => h x (by simp [Tr.lv, hx])
    have h2 := wt_tree r fun x hx => h x (by simp [Tr.lv, hx])
    have n1 := Tr.ht_lv l; have n2 := Tr.ht_lv r
    have := (WtA.cons (h1.up (Nat.le_refl _) (Nat.le_max_left _ (Tr.ht r))) (WtA.cons (h2.up (Nat.le_refl _) (Nat.le_max_right (Tr.ht l) _)) WtA.nil)).tup
    exact this.up (by simp only [Tr.lv, List.length_append]; omega) (Nat.le_refl _)
theorem wt_row {r : List Int} (h : ∀ x ∈ r, 0 ≤ x ∧ x < 8) : Wt (rowT r) (4 * r.length) 1 := by
  have := WtA.map (f := PyData.int) (w := 3) (dp := 0) (l := r) fun a ha => wt_int (b := 3) (by decide) (by have := h a ha; omega)
  exact this.tup
theorem wt_key {t : T} (h : ∀ x ∈ Tr.lv t, 0 ≤ x ∧ x < 8) : Wt (keyT t) ((4 * (Tr.lv t).length + 1) * (Tr.lv t).length) 2 := by
  have hk := key_len t
  have hl := Tr.lots_len t
  have := WtA.map (f := rowT) (w := 4 * (Tr.lv t).length) (dp := 1) (l := key t) fun L hL => by
    have hm : L ∈ Tr.lots t := (srtR_perm _).mem_iff.mp hL
    have hlen : L.length ≤ (Tr.lv t).length := lots_short t hm
    exact (wt_row fun x hx => h x ((Tr.lots_sub t hm).1 x hx)).up (by omega) (Nat.le_refl _)
  exact this.tup.up (Nat.mul_le_mul (Nat.le_refl _) (by omega)) (Nat.le_refl _)
where
  lots_short : ∀ (t : T) {L : List Int}, L ∈ Tr.lots t → L.length ≤ (Tr.lv t).length
    | .lf _, L, h => by simp [Tr.lots] at h
    | .nd l r, L, h => by
      simp only [Tr.lots, List.mem_cons, List.mem_append] at h
      simp only [Tr.lv, List.length_append]
      rcases h with h | h | h
      · subst h; rw [(Tr.lo_perm _).length_eq]; simp [Tr.lv]
      · have := lots_short l h; omega
      · have := lots_short r h; omega
section
variable {X : Cx}
def rReprD (K : Frag) : List V → Hp → VK → Prop := fun xs H Q => ∃ (d : D) (l : List D) (v : V) (G : Hp), xs = [v] ∧ (d = .list l ∨ d = .tuple l) ∧ Ex G H ∧ Rp K G d v ∧ Shw d ∧ Q (.str d.shown) H
theorem cr_reprD (hg : X.A.guards = some []) (hu : X.A.units + 60 < cLine) : CallR X (.builtin "repr") (rReprD X.K) := by
  intro pins s σ H xs us Q J r h
  obtain ⟨d, l, v, G, rfl, hdl, ex, hv, sh, q⟩ := h
  obtain ⟨u, rfl, e⟩ := vals1 r
  obtain ⟨as, rd⟩ := reads_of J ex _ hv e
  obtain ⟨a, rfl⟩ : ∃ a, u = Value.ref a := by
    rcases hdl with rfl | rfl
    · obtain ⟨a, xs, rfl, _⟩ := hv.lst'; exact ⟨a, e⟩
    · obtain ⟨a, xs, rfl, _⟩ := hv.tup'; exact ⟨a, e⟩
  have hd := sh.dp
  exact PySem.repr_of_reads' rd sh.ok (PyData.noDict_hsm sh.nd) hg (by omega) (fun _ _ z => z) (fun h' u tk hk => ⟨.str _, H, J.kept hk, ⟨u, rfl⟩, q⟩) sh.sz
end
section
variable {I : Inf} {c : Ct} {ds : List SD} {A : After} {e : Expr} {pos p : Pos}
theorem ev_reprD {d : D} {l : List D} (hdl : d = .list l ∨ d = .tuple l) (hgd : I.gd = true) (hg : I.sc.names.lookup ("repr" : Str) = some .globalImplicit) (hm : I.mg "repr" = none) (sh : Shw d) (ha : EvE I c e ds (· = d)) (hs : ∀ X, Fits I X → starEach [e] X.env = (false, eval e X.env) :: starEach [] X.env := by intros; rfl) :
    EvE I c (.Call (.Name "repr" p) [e] [] pos) ds (· = .str d.shown) :=
  ev_callB (id := "repr") (r := rReprD I.K) (fun X F => by have := cr_reprD (X := X) (F.gd hgd) (by have := F.room.units; omega); rw [F.K] at this; exact this) hg hm (by decide +kernel) (ea_1 ha hs) (he := hs) (fun l' ⟨d', hl, hd⟩ σ G H vs s r Q k => by
    subst hl; subst hd
    obtain ⟨v, rfl, r1⟩ := rpa1 r
    exact ⟨d', l, v, G, rfl, hdl, s.ex, r1, sh, k.now s .str rfl⟩)
/-- x == [], x an owned list of ints -/
theorem et_nilO {i : Nat} {x : Str} {ns : List Int} {p1 p2 : Pos} (hN : I.N[i]? = some x) (hv : Vis I.sc x) (ho : ds[i]? = some (.own (ns.map PyData.int))) (h1 : (x == ("__debug__" : Str)) = false := by decide) (h2 : (x == ("__classdict__" : Str)) = false := by decide) :
    EvT I c (.Compare (.Name x p1) [.Eq] [.List [] p2] pos) ds (· = decide (ns = [])) := fun X F σ G H s Q k => by
  refine w_pt (pt_cmpR (op_eqD F.room.units) (pe_var (i := i) (by rw [F.N]; exact hN) (by rw [F.sc]; exact hv) h1 h2) (pe_lst pa_nil) (nobehind _ (by decide) (by decide))) ?_
  obtain ⟨q, xs, e1, h0, h3, h4, h5, h6, h7⟩ := own_at s ho
  rw [RpA.ints] at h7; subst h7
  refine ⟨.ref q, e1, Nat.zero_le _, fun pp np => ?_⟩
  have nq : q ≠ pp := fun z => by rw [z, np] at h6; cases h6
  have k2 : (upd H pp (.lst [])) q = some (.lst (ns.map V.int)) := by rw [upd_ne nq]; exact h6
  have s2 : S I c G (upd H pp (.lst [])) σ ds := State.aside s np
  refine ⟨.list (ns.map PyData.int), .list [], .lst (SqL.of k2) (dpAll_ints ns), .lst (SqL.of upd_same) .nil, shaped_ints _, by decide +kernel, _, rfl, ?_⟩
  rw [eqv_nil]
  refine k _ G _ ⟨Ex.refl G, fun b o h _ => Ex.new np b o h, fun b hb => .inl hb, fun b hb => ?_⟩ s2 rfl
  by_cases z : b = pp
  · rw [z, upd_same]; exact fun z => nomatch z
  · rw [upd_ne z]; exact hb
/-- x.append(y.pop()), two owned lists -/
theorem rs_popApp {i j : Nat} {x y : Str} {l m : List D} {d : D} {p p2 p3 p4 q1 q2 q3 : Pos} (hN : I.N[i]? = some x) (hv : Vis I.sc x) (ho : ds[i]? = some (.own l)) (hl : l.length < Lm)
    (hN2 : I.N[j]? = some y) (hv2 : Vis I.sc y) (ho2 : ds[j]? = some (.own (m ++ [d]))) (hij : i ≠ j) (hn : A.nx ((ds.set j (.own m)).set i (.own (l ++ [d]))))
    (h1 : (x == ("__debug__" : Str)) = false := by decide) (h2 : (x == ("__classdict__" : Str)) = false := by decide) (h3 : (y == ("__debug__" : Str)) = false := by decide) (h4 : (y == ("__classdict__" : Str)) = false := by decide)
    (hline : (p2.endLine == p3.line) = true := by rfl) (hline2 : (q2.endLine == q3.line) = true := by rfl)
    (hbase2 : ∀ X, Fits I X → attributeBase (.Name y q1) ("pop" : Str) X.env (eval (.Name y q1) X.env) = eval (.Name y q1) X.env := by intros; rfl)
    (hfew : ∀ X, Fits I X → ((((backTo p3 (starEach [.Call (.Attribute (.Name y q1) ("pop" : Str) q2) [] [] q3] X.env)).all fun x => !x.fst) && (backToKw p3 (keywordEach [] X.env)).all fun x => x.fst.isSome) && decide (([Expr.Call (.Attribute (.Name y q1) ("pop" : Str) q2) [] [] q3].length + ([] : List Keyword).length + if ([] : List Keyword).isEmpty = true then 0 else 1) < 30)) = true := by intros; rfl) :
    RunS I c (.Expr (.Call (.Attribute (.Name x p) ("append" : Str) p2) [.Call (.Attribute (.Name y q1) ("pop" : Str) q2) [] [] q3] [] p3) p4) ds A := fun X F σ G H E s k => by
  have inner : PE X (.Call (.Attribute (.Name y q1) ("pop" : Str) q2) [] [] q3) _ := pe_bm0 PySem.F.plainAttrs_list PySem.F.slot_list_pop PySem.F.type_list_pop mt_pop (pe_var (i := j) (by rw [F.N]; exact hN2) (by rw [F.sc]; exact hv2) h3 h4) (hbase2 X F) hline2
  have go : PE X (.Call (.Attribute (.Name x p) ("append" : Str) p2) [.Call (.Attribute (.Name y q1) ("pop" : Str) q2) [] [] q3] [] p3) _ := pe_bm PySem.F.plainAttrs_list PySem.F.slot_list_append PySem.F.type_list_append mt_append (pe_var (i := i) (by rw [F.N]; exact hN) (by rw [F.sc]; exact hv) h1 h2) (pa_cons inner pa_nil) (hfew := hfew X F) (hline := hline)
  refine w_ps (ps_expr go) ?_
  obtain ⟨q, xs, e1, h0, g3, g4, g5, g6, g7⟩ := own_at s ho
  obtain ⟨q', zs, e1', h0', g3', g4', g5', g6', g7'⟩ := own_at s ho2
  have qq : q ≠ q' := by
    rintro rfl
    exact s.dist i j l _ q hij ho ho2 e1 e1'
  have hzl := g7'.length
  rw [List.length_append] at hzl g5'
  simp only [List.length_singleton] at hzl g5'
  obtain ⟨u, c1, c2⟩ := g7'.get (i := m.length) (d := d) (by rw [List.getElem?_append_right (by omega)]; simp)
  have hdl : zs.dropLast = zs.take m.length := by rw [List.dropLast_eq_take]; congr 1; omega
  have ht := g7'.take m.length
  rw [List.take_left' rfl, ← hdl] at ht
  refine ⟨.ref q, e1, .inl ⟨rfl, xs, SqL.of g6⟩, .ref q', e1', .inl ⟨rfl, zs, SqL.of g6'⟩, q', zs, u, rfl, rfl, g6', by rw [show zs.length - 1 = m.length by omega]; exact c1, ?_⟩
  have s2 := own_put s ho2 e1' ht (by omega)
  have ho' : (ds.set j (.own m))[i]? = some (.own l) := by rw [List.getElem?_set_ne (Ne.symm hij)]; exact ho
  refine ⟨q, xs, u, rfl, rfl, by rw [upd_ne qq]; exact g6, by rw [g7.length]; exact Lm_lt (Nat.le_of_lt hl), ?_⟩
  exact k.nx σ G _ _ (Ex.refl G) (own_put s2 ho' e1 (g7.append (.cons c2 .nil)) (by rw [List.length_append]; exact hl)) hn
end
/-! from data back to trees -/
theorem tD_inj : ∀ {s t : T}, tD s = tD t → s = t
  | .lf i, .lf j, h => by unfold tD at h; injection h with h; rw [h]
  | .lf i, .nd _ _, h => by unfold tD at h; cases h
  | .nd _ _, .lf i, h => by unfold tD at h; cases h
  | .nd a b, .nd a' b', h => by
    unfold tD at h
    injection h with h
    injection h with h1 h2
    injection h2 with h2 _
    rw [tD_inj h1, tD_inj h2]
noncomputable def dT (d : D) : T := open Classical in if h : ∃ t, d = tD t then h.choose else .lf 0
theorem dT_tD (t : T) : dT (tD t) = t := by
  have h : ∃ u, tD t = tD u := ⟨t, rfl⟩
  unfold dT
  rw [dif_pos h]
  exact (tD_inj h.choose_spec).symm
theorem map_dT {f : T → D} (l : List T) : (l.map tD).map (fun d => f (dT d)) = l.map f := by
  rw [List.map_map]
  exact List.map_congr_left fun t _ => by show f (dT (tD t)) = _; rw [dT_tD]
theorem at_len {i : Nat} (h : i ≤ 5) : (Tr.at_ i).length ≤ 945 := by
  have h1 := @all_len
  cases i with
  | zero => simp [Tr.at_]
  | succ j => have := (@all_len (j + 2) (by omega) (by omega)).2; exact this
section
variable {P : Program} {w : World} {K : Frag} {mg : Str → Option Value} {base : Heap} {k : Nat} {f : Addr} {fd : FuncData}
/-! all_trees(n) -/
abbrev sAt : Stmt := top 18
theorem scAt : FnScope ["n", "trees", "item", "pairs", "tree", "more", "pair"] ["n"] (defScope sAt) := ⟨rfl, rfl, rfl, by decide +kernel, rfl, by decide +kernel, by decide +kernel⟩
def pcAt : List AD → (D → Prop) → Prop := fun ads R => ∃ n : Nat, ads = [.dat (.int (n : Nat))] ∧ 2 ≤ n ∧ n ≤ 6 ∧ R = (· = .tuple ((allS n).map tD))
def snd : D → D
  | .tuple [_, b] => b
  | d => d
theorem ok_At (m : Mg mg) (F : Fun K "all_trees" "all_trees" sAt f fd) (hDm : Has P w K mg base k "demand_many" (spD K pcDm)) (hTw : Has P w K mg base k "trees_with" (spD K (pcTw 5))) (hLs : Has P w K mg base k "lots_of" (spD K pcLs)) : FnOk P w K mg base CX0 (k + 1) f fd ["n"] (spD K pcAt) := by
  refine fn_mkD F scAt (fun ads R h => by obtain ⟨_, rfl, _⟩ := h; rfl) fun c ads R h hz => ?_
  obtain ⟨n, rfl, h2, h6, rfl⟩ := h
  have hal := all_len h2 h6
  refine run_to (rs_expr (ev_callD (PA := (· = [.dat (.int (n : Nat))])) (P := (· = .none)) (Pc := pcDm) ⟨hDm⟩ rfl (ed_dat (by walk_at "var") ed_nil) (fun l hl => ⟨_, ⟨n, hl, h2, h6, rfl⟩, fun d hd => hd⟩)) rfl) ?_
  refine run_to (ds1 := [.dat (.int (n : Nat)), .dat (.list ((Tr.at_ 0).map tD)), .un, .un, .un, .un, .un]) (rs_set (i := 1) (by walk_at "sto") (ev_as (ev_lst (ea_cons ev_int ea_nil) (hl := by show 1 ≤ 100000; decide)) rfl)) ?_
  refine run_cons (Mid := fun ds' => ∃ z2 : SD, ds' = [.dat (.int (n : Nat)), .dat (.list ((Tr.all n).map tD)), z2, .un, .un, .un, .un]) (rs_for (items := intsD 1 ((n : Int) - 1).toNat) (wk_range2 rfl m.range (ea_cons ev_int (ea_cons (by walk_at "var") ea_nil)) (by decide) (by decide) (by omega) (by omega)) (tg_name (i := 2) (by walk_at "sto"))
    (fun i ds' => ∃ z2 : SD, ds' = [.dat (.int (n : Nat)), .dat (.list ((Tr.at_ i).map tD)), z2, .un, .un, .un, .un]) ⟨_, rfl⟩ ?_ ?_) ?_
  · rintro i d ds' hi ⟨z2, rfl⟩
    obtain ⟨hilt, rfl⟩ := intsD_get hi
    have hi5 : i + 1 ≤ 5 := by omega
    refine ⟨_, rfl, run_one ?_⟩
    have ex : (1 + (i : Nat) : Int) = ((i + 1 : Nat) : Int) := by omega
    rw [ex]
    have hlen := at_len hi5
    have efl : (((Tr.at_ i).map tD).flatMap fun d => (((Tr.put (dT d) ((i + 1 : Nat) : Int)).map tD).map (fun e => e))) = (Tr.at_ (i + 1)).map tD := by
      rw [List.flatMap_map, Tr.at_, List.map_flatMap]
      congr 1
      funext t
      rw [dT_tD, List.map_id']
    have hsm : ∀ t ∈ Tr.at_ i, Tr.ht t ≤ 5 ∧ (Tr.lv t).length ≤ 100 := fun t ht => by
      have := (Tr.at_ok i t ht).2.length_eq
      have h7 := Tr.ht_lv t
      simp [Tr.upto] at this
      omega
    refine rs_setLc2 (i := 1) [("tree", 4), ("more", 5)] [5] (items := (Tr.at_ i).map tD) (fun d => (Tr.put (dT d) ((i + 1 : Nat) : Int)).map tD) (fun _ e => e) (fun d => [(4, d)]) rfl rfl rfl (by decide +kernel) (by walk_at "blk") (by simp) (wk_list (by walk_at "var")) (tg_name (i := 4) (by walk_at "sto")) (tg_name (i := 5) (by walk_at "sto")) (by rw [efl, List.length_map]; exact Nat.le_trans hlen (by decide)) (fun d hd => ⟨rfl, by simp⟩) (fun d hd => ?_) (fun d hd e he => ⟨_, rfl, by simp, by walk_at "var"⟩) ?_
    · obtain ⟨t, ht, rfl⟩ := mem_tree hd
      rw [dT_tD]
      exact wk_list (ev_callD (PA := (· = [.dat (tD t), .dat (.int ((i + 1 : Nat) : Int))])) (Pc := pcTw 5) ⟨hTw⟩ rfl (ed_dat (by walk_at "var") (ed_dat (by walk_at "var") ed_nil)) (fun a ha => ⟨_, ⟨t, _, ha, (hsm t ht).1, (hsm t ht).2, rfl⟩, fun d hd => hd⟩))
    · refine ⟨.dat (.int ((i + 1 : Nat) : Int)), ?_⟩
      rw [efl]; rfl
  · rintro ds' ⟨z2, rfl⟩
    rw [intsD_length]
    refine ⟨z2, ?_⟩
    unfold Tr.all
    rw [show ((n : Int) - 1).toNat = n - 1 by omega]
  rintro ds' ⟨z2, rfl⟩
  have hok : ∀ t ∈ Tr.all n, (Tr.lv t).Perm (Tr.upto n) := fun t ht => (all_ok (by omega) ht).2
  refine run_to (ds1 := [.dat (.int (n : Nat)), .dat (.list ((Tr.all n).map tD)), z2, .dat (.list ((allS n).map pairP)), .un, .un, .un]) (rs_setP (i := 3) (P := (· = .list ((allS n).map pairP))) (by walk_at "sto") (ev_as (ev_lc (ef_sorted (bs := Tr.all n) (enc := pairP) (key := keyT) rfl m.sorted (.heads (heads_p (by omega))) (by show _ ≤ 100000; omega) (fun t ht => ?_) (ev_to (P := (· = .list ((Tr.all n).map pairP)))
    (ev_as (ev_lc (ef_map [("tree", 4)] (items := (Tr.all n).map tD) (fun d => pairP (dT d)) (by walk_at "blk") (wk_list (by walk_at "var")) (tg_name (i := 4) (by walk_at "sto")) (by rw [List.length_map]; show _ ≤ 100000; omega) (fun d hd => ?_))) (by rw [map_dT])) (fun d hd => .inl hd)))) rfl) (fun d hd => by subst hd; rfl)) ?_
  · have h1 := len_of (hok t ht)
    have h3 := Tr.ht_lv t
    have h4 := dpt_tree t
    have h5 := dpt_rows (key t)
    unfold pairP keyT
    simp only [PyData.depth, PyData.depthAll]
    omega
  · obtain ⟨t, ht, rfl⟩ := mem_tree hd
    refine ⟨_, rfl, by simp, ?_⟩
    rw [dT_tD]
    exact ev_tup (ea_cons (ev_callD (PA := (· = [.dat (.int (n : Nat)), .dat (tD t)])) (Pc := pcLs) ⟨hLs⟩ rfl (ed_dat (by walk_at "var") (ed_dat (by walk_at "var") ed_nil)) (fun a ha => ⟨_, ⟨n, t, ha, h2, h6, hok t ht, rfl⟩, fun d hd => hd⟩)) (ea_cons (by walk_at "var") ea_nil)) (hl := by show 2 ≤ 100000; decide)
  refine run_one (rs_ret (ev_tupleL (l := (allS n).map tD) rfl m.tuple (ev_as (ev_lc (ef_map [("pair", 6)] (items := (allS n).map pairP) snd (by walk_at "blk") (wk_list (by walk_at "var")) (tg_name (i := 6) (by walk_at "sto")) (by rw [List.length_map, (allS_perm n).length_eq]; show _ ≤ 100000; omega) (fun d hd => ?_))) (by rw [List.map_map]; rfl))) rfl)
  obtain ⟨t, ht, rfl⟩ := List.mem_map.mp hd
  exact ⟨_, rfl, by simp, ev_ixT (l := [keyT t, tD t]) (by walk_at "var") ev_int rfl⟩
end

end K8

set_option Elab.async false
set_option maxRecDepth 100000
set_option exponentiation.threshold 2000
set_option linter.all false
set_option maxHeartbeats 1000000
namespace K8
open PySem L2 Dl
local macro_rules | `(tactic| walk_at "vis") => `(tactic| first | exact Or.inl rfl | exact Or.inr (Or.inl rfl) | exact Or.inr (Or.inr rfl))
local macro_rules | `(tactic| walk_at "sto") => `(tactic| first | exact ⟨rfl, Or.inl rfl, Or.inl rfl⟩ | exact ⟨rfl, Or.inl rfl, Or.inr rfl⟩ | exact ⟨rfl, Or.inr rfl, Or.inl rfl⟩)
local macro_rules | `(tactic| walk_at "var") => `(tactic| first
  | exact ev_var 0 rfl (by walk_at "vis") rfl | exact ev_var 1 rfl (by walk_at "vis") rfl | exact ev_var 2 rfl (by walk_at "vis") rfl | exact ev_var 3 rfl (by walk_at "vis") rfl
  | exact ev_var 4 rfl (by walk_at "vis") rfl | exact ev_var 5 rfl (by walk_at "vis") rfl | exact ev_var 6 rfl (by walk_at "vis") rfl | exact ev_var 7 rfl (by walk_at "vis") rfl
  | exact ev_var 8 rfl (by walk_at "vis") rfl | exact ev_var 9 rfl (by walk_at "vis") rfl | exact ev_var 10 rfl (by walk_at "vis") rfl | exact ev_var 11 rfl (by walk_at "vis") rfl
  | exact ev_var 12 rfl (by walk_at "vis") rfl | exact ev_var 13 rfl (by walk_at "vis") rfl | exact ev_var 14 rfl (by walk_at "vis") rfl | exact ev_var 15 rfl (by walk_at "vis") rfl)

local macro_rules | `(tactic| walk_at "ev") => `(tactic| first
  | exact ev_int | exact ev_bl | exact ev_str | exact ev_non
  | walk_at "var"
  | (refine ev_neg ?_ <;> walk_at "ev")
  | (refine ev_add ?_ ?_ <;> walk_at "ev")
  | (refine ev_sub ?_ ?_ <;> walk_at "ev"))

local macro_rules | `(tactic| walk_at "blk") => `(tactic| (dsimp only; decide +kernel))
open PySem.W (alike alikeAll AllAlike Sortable)
theorem at_gen {l : List D} {k : Nat} (h : k < l.length) : atI l (k : Int) = some l[k] := atI_nat (by rw [List.getElem?_eq_getElem h])
theorem small_l {i j : Int} (h0 : 0 ≤ i) (h : i < 2 ^ 64) : CMul i j := .inl ⟨by omega, h⟩
theorem small_r {i j : Int} (h0 : 0 ≤ j) (h : j < 2 ^ 64) : CMul i j := .inr ⟨by omega, h⟩
section
variable {P : Program} {w : World} {K : Frag} {mg : Str → Option Value} {base : Heap} {k : Nat} {f : Addr} {fd : FuncData}
/-! _law_draw(deck, many) -/
abbrev sDraw : Stmt := top 22
theorem scDraw : FnScope ["_law_deck_here", "_law_many", "_law_figure", "_law_cell"] ["_law_deck_here", "_law_many"] (defScope sDraw) := ⟨rfl, rfl, rfl, by decide +kernel, rfl, by decide +kernel, by decide +kernel⟩
def pcDraw : List AD → (D → Prop) → Prop := fun ads R => ∃ n : Nat, ads = [.deck, .dat (.int n)] ∧ 1 ≤ n ∧ n < 2 ^ 60 ∧ R = IsI (fun i => 0 ≤ i ∧ i < n)
theorem ok_Draw (m : Mg mg) (F : Fun K "_law_draw" "_law_draw" sDraw f fd) : FnOk P w K mg base CX0 (k + 1) f fd ["_law_deck_here", "_law_many"] (spD K pcDraw) := by
  refine fn_mkD F scDraw (fun ads R h => by obtain ⟨_, rfl, _⟩ := h; rfl) fun c ads R h hz => ?_
  obtain ⟨n, rfl, hn1, hn, rfl⟩ := h
  have hn2 : (n : Int) < 2 ^ 60 := by omega
  refine run_to (ds1 := [.deck, .dat (.int n), .un, .un]) (rs_deckSet (i := 0) rfl (by walk_at "vis") rfl (ev_addP (p := fun i => 0 ≤ i) (q := (· = 1)) (ev_deckD 0 rfl (by walk_at "vis") rfl) (ev_int.imp isI) (fun i j hi hj => by subst hj; omega)) rfl) ?_
  refine run_cons (Mid := fun ds' => ∃ a : Int, 0 ≤ a ∧ ds' = [.deck, .dat (.int n), .dat (.int a), .un]) (rs_setP (i := 2) (P := IsI (fun i => 0 ≤ i)) (by walk_at "sto")
    (ev_addP (p := fun i => 0 ≤ i) (q := fun i => 0 ≤ i) (ev_deckM 0 rfl (by walk_at "vis") rfl) (ev_mulS (p := (· = 64373)) (q := fun i => 0 ≤ i) (r := fun i => 0 ≤ i) (ev_int.imp isI) (ev_deckD 0 rfl (by walk_at "vis") rfl) (fun i j hi hj => by subst hi; exact small_l (by decide) (by decide)) (fun i j hi hj => by subst hi; omega)) (fun i j hi hj => by omega))
    (fun d hd => by obtain ⟨a, rfl, ha⟩ := hd; exact ⟨a, ha, rfl⟩)) ?_
  rintro ds' ⟨a, ha, rfl⟩
  refine run_cons (Mid := fun ds' => ∃ (a : Int) (z : SD), 0 ≤ a ∧ ds' = [.deck, .dat (.int n), .dat (.int a), z]) (rs_ifDraw (i := 0) (iy := 3) (iz := 1) (n := n) rfl (by walk_at "vis") rfl (by walk_at "sto") (by walk_at "vis") rfl (by walk_at "vis") rfl (by omega) (by decide) (by decide) (by show 3 < 4; decide) rfl m.max
    (fun b => run_one (rs_retP (P := IsI (fun i => 0 ≤ i ∧ i < n)) (ev_modP (p := fun _ => True) (q := (· = (n : Int))) (ev_intIP rfl m.int ((ev_var 3 rfl (by walk_at "vis") rfl).imp (fun d hd => ⟨b, hd, trivial⟩))) ((ev_var 1 rfl (by walk_at "vis") rfl).imp isI) (fun i j _ hj => by subst hj; omega) (fun i j _ hj => by subst hj; exact ⟨Int.emod_nonneg _ (by omega), Int.emod_lt_of_pos _ (by omega)⟩)) (fun d hd => hd)))
    (fun b => run_one (rs_setP (i := 2) (P := IsI (fun i => 0 ≤ i)) (by walk_at "sto") (ev_addP (p := fun i => 0 ≤ i) (q := fun i => 0 ≤ i) ((ev_var 2 rfl (by walk_at "vis") rfl).imp (fun d hd => ⟨a, hd, ha⟩)) (ev_modP (p := fun _ => True) (q := (· = 2147483587)) (ev_intIP rfl m.int ((ev_var 3 rfl (by walk_at "vis") rfl).imp (fun d hd => ⟨b, hd, trivial⟩))) (ev_int.imp isI) (fun i j _ hj => by subst hj; decide) (fun i j _ hj => by subst hj; exact Int.emod_nonneg _ (by decide))) (fun i j hi hj => by omega))
      (fun d hd => by obtain ⟨a2, rfl, ha2⟩ := hd; exact ⟨a2, _, ha2, rfl⟩)))
    ⟨a, _, ha, rfl⟩) ?_
  rintro ds' ⟨a, z, ha, rfl⟩
  refine run_cons (Mid := fun ds' => ∃ a : Int, 0 ≤ a ∧ a < 2147483549 ∧ ds' = [.deck, .dat (.int n), .dat (.int a), z]) (rs_setP (i := 2) (P := IsI (fun i => 0 ≤ i ∧ i < 2147483549)) (by walk_at "sto")
    (ev_modP (p := fun _ => True) (q := (· = 2147483549)) (ev_intIP rfl m.int (ev_addP (p := fun _ => True) (q := fun _ => True) (ev_mulS (p := fun _ => True) (q := (· = 48271)) ((ev_var 2 rfl (by walk_at "vis") rfl).imp (fun d hd => ⟨a, hd, trivial⟩)) (ev_int.imp isI) (fun i j _ hj => by subst hj; exact small_r (by decide) (by decide)) (fun _ _ _ _ => trivial)) (ev_int.imp (fun d hd => ⟨_, hd, trivial⟩)) (fun _ _ _ _ => trivial))) (ev_int.imp isI) (fun i j _ hj => by subst hj; decide) (fun i j _ hj => by subst hj; exact ⟨Int.emod_nonneg _ (by decide), Int.emod_lt_of_pos _ (by decide)⟩))
    (fun d hd => by obtain ⟨a, rfl, ha⟩ := hd; exact ⟨a, ha.1, ha.2, rfl⟩)) ?_
  rintro ds' ⟨a, ha, hb, rfl⟩
  refine run_cons (Mid := fun ds' => ∃ a : Int, 0 ≤ a ∧ ds' = [.deck, .dat (.int n), .dat (.int a), z]) (rs_setP (i := 2) (P := IsI (fun i => 0 ≤ i)) (by walk_at "sto")
    (ev_modP (p := fun _ => True) (q := (· = 2147483399)) (ev_intIP rfl m.int (ev_addP (p := fun _ => True) (q := fun _ => True) (ev_addP (p := fun _ => True) (q := fun _ => True)
      (ev_mulS (p := (· = a)) (q := (· = a)) ((ev_var 2 rfl (by walk_at "vis") rfl).imp isI) ((ev_var 2 rfl (by walk_at "vis") rfl).imp isI) (fun i j hi hj => by subst hi; exact small_l ha (by omega)) (fun _ _ _ _ => trivial))
      (ev_mulS (p := (· = 52361)) (q := fun i => 0 ≤ i) (ev_int.imp isI) (ev_deckD 0 rfl (by walk_at "vis") rfl) (fun i j hi hj => by subst hi; exact small_l (by decide) (by decide)) (fun _ _ _ _ => trivial)) (fun _ _ _ _ => trivial)) (ev_int.imp (fun d hd => ⟨_, hd, trivial⟩)) (fun _ _ _ _ => trivial))) (ev_int.imp isI) (fun i j _ hj => by subst hj; decide) (fun i j _ hj => by subst hj; exact Int.emod_nonneg _ (by decide)))
    (fun d hd => by obtain ⟨a, rfl, ha⟩ := hd; exact ⟨a, ha, rfl⟩)) ?_
  rintro ds' ⟨a, ha, rfl⟩
  refine run_cons (Mid := fun ds' => ∃ a : Int, 0 ≤ a ∧ ds' = [.deck, .dat (.int n), .dat (.int a), z]) (rs_setP (i := 2) (P := IsI (fun i => 0 ≤ i)) (by walk_at "sto")
    (ev_modP (p := fun _ => True) (q := (· = 2147483563)) (ev_intIP rfl m.int (ev_mulS (p := fun _ => True) (q := (· = 40014)) ((ev_var 2 rfl (by walk_at "vis") rfl).imp (fun d hd => ⟨a, hd, trivial⟩)) (ev_int.imp isI) (fun i j _ hj => by subst hj; exact small_r (by decide) (by decide)) (fun _ _ _ _ => trivial))) (ev_int.imp isI) (fun i j _ hj => by subst hj; decide) (fun i j _ hj => by subst hj; exact Int.emod_nonneg _ (by decide)))
    (fun d hd => by obtain ⟨a, rfl, ha⟩ := hd; exact ⟨a, ha, rfl⟩)) ?_
  rintro ds' ⟨a, ha, rfl⟩
  exact run_one (rs_retP (P := IsI (fun i => 0 ≤ i ∧ i < n)) (ev_modP (p := fun _ => True) (q := (· = (n : Int))) (ev_intIP rfl m.int (ev_divP (p := fun _ => True) (q := (· = 64)) ((ev_var 2 rfl (by walk_at "vis") rfl).imp (fun d hd => ⟨a, hd, trivial⟩)) (ev_int.imp isI) (fun i j _ hj => by subst hj; exact wide_div (b := 10) (by decide) (by decide) (by decide) (by decide)) (fun _ _ _ _ => trivial))) ((ev_var 1 rfl (by walk_at "vis") rfl).imp isI) (fun i j _ hj => by subst hj; omega) (fun i j _ hj => by subst hj; exact ⟨Int.emod_nonneg _ (by omega), Int.emod_lt_of_pos _ (by omega)⟩)) (fun d hd => hd))
theorem ev_draw {I : Inf} {c : Ct} {ds : List SD} {p p1 pos : Pos} {e : Expr} {i : Nat} {q r : Int → Prop} {y : Str} (hf : FnD I ("_law_draw" : Str) pcDraw) (hg : I.sc.names.lookup ("_law_draw" : Str) = some .globalImplicit)
    (hN : I.N[i]? = some y) (hv : Vis I.sc y) (hd : ds[i]? = some .deck) (he : EvE I c e ds (IsI q)) (hq : ∀ m, q m → 1 ≤ m ∧ m < 2 ^ 60) (hr : ∀ m j, q m → 0 ≤ j → j < m → r j)
    (h1 : (y == ("__debug__" : Str)) = false := by decide) (h2 : (y == ("__classdict__" : Str)) = false := by decide)
    (hs : ∀ X, Fits I X → starEach [.Name y p1, e] X.env = (false, eval (.Name y p1) X.env) :: starEach [e] X.env := by intros; rfl)
    (hs2 : ∀ X, Fits I X → starEach [e] X.env = (false, eval e X.env) :: starEach [] X.env := by intros; rfl)
    (hpl : ∀ X, Fits I X → (backTo pos (starEach [e] X.env)).any (·.1) = false := by intros; rfl) :
    EvE I c (.Call (.Name ("_law_draw" : Str) p) [.Name y p1, e] [] pos) ds (IsI r) :=
  ev_callD (PA := fun l => ∃ m, q m ∧ l = [.deck, .dat (.int m)]) (Pc := pcDraw) hf hg
    (ed_deckP (R := fun l => ∃ m, q m ∧ l = [.dat (.int m)]) i hN hv hd (ed_datP (R := (· = [])) he ed_nil (fun d l hd hl => by obtain ⟨m, rfl, hm⟩ := hd; subst hl; exact ⟨m, hm, rfl⟩) hs2) (fun l hl => by obtain ⟨m, hm, rfl⟩ := hl; exact ⟨m, hm, rfl⟩) h1 h2 hs)
    (fun l hl => by
      obtain ⟨m, hm, rfl⟩ := hl
      have hb := hq m hm
      refine ⟨_, ⟨m.toNat, by rw [Int.toNat_of_nonneg (by omega)], by omega, by omega, rfl⟩, fun d hd => ?_⟩
      obtain ⟨j, rfl, hj⟩ := hd
      exact ⟨j, rfl, hr m j hm hj.1 (by omega)⟩) (by decide) hs hpl

/-! _law_pick(deck, some) -/
abbrev sPick : Stmt := top 23
theorem scPick : FnScope ["_law_deck_here", "_law_some"] ["_law_deck_here", "_law_some"] (defScope sPick) := ⟨rfl, rfl, rfl, by decide +kernel, rfl, by decide +kernel, by decide +kernel⟩
def pcPick : List AD → (D → Prop) → Prop := fun ads R => ∃ (l : List D), ads = [.deck, .dat (.tuple l)] ∧ 1 ≤ l.length ∧ l.length ≤ Lm ∧ R = (· ∈ l)
theorem ok_Pick (m : Mg mg) (F : Fun K "_law_pick" "_law_pick" sPick f fd) (hDraw : Has P w K mg base k "_law_draw" (spD K pcDraw)) : FnOk P w K mg base CX0 (k + 1) f fd ["_law_deck_here", "_law_some"] (spD K pcPick) := by
  refine fn_mkD F scPick (fun ads R h => by obtain ⟨_, rfl, _⟩ := h; rfl) fun c ads R h hz => ?_
  obtain ⟨l, rfl, h1, h2, rfl⟩ := h
  have h3 : l.length ≤ 100000 := h2
  refine run_one (rs_retP (P := (· ∈ l)) (ev_ixP (PA := (· = .tuple l)) (PB := IsI (fun j => 0 ≤ j ∧ j < (l.length : Nat))) (by walk_at "var")
    (ev_draw ⟨hDraw⟩ rfl (i := 0) rfl (by walk_at "vis") rfl (ev_to (P := (· = .int (l.length : Nat))) (ev_lenT rfl m.len (by walk_at "var")) isI) (fun m hm => by omega) (fun m j hm h0 hj => by subst hm; exact ⟨h0, hj⟩)) (fun x y hx hy => ?_)) (fun d hd => hd))
  obtain ⟨j, rfl, h0, hj⟩ := hy
  obtain ⟨j', rfl⟩ : ∃ j' : Nat, j = j' := ⟨j.toNat, by omega⟩
  exact ⟨l, _, _, rfl, .inr hx, at_gen (by omega), List.getElem_mem _⟩

/-! _law_tree(deck, items) -/
abbrev sTr : Stmt := top 24
theorem scTr : FnScope ["_law_deck_here", "_law_items", "_law_left", "_law_right", "_law_it", "_law_side", "_law_one", "_law_other"] ["_law_deck_here", "_law_items"] (defScope sTr) := ⟨rfl, rfl, rfl, by decide +kernel, rfl, by decide +kernel, by decide +kernel⟩
def pcTr (j : Nat) : List AD → (D → Prop) → Prop := fun ads R => ∃ ns : List Int, ads = [.deck, .dat (.list (ns.map PyData.int))] ∧ 1 ≤ ns.length ∧ ns.length ≤ j + 1 ∧ ns.length ≤ 100 ∧ R = fun d => ∃ t : T, d = tD t ∧ (Tr.lv t).Perm ns
theorem ok_Tr (m : Mg mg) (F : Fun K "_law_tree" "_law_tree" sTr f fd) (hDraw : Has P w K mg base k "_law_draw" (spD K pcDraw)) (j : Nat) (rec_ : ∀ i, i + 1 = j → Has P w K mg base k "_law_tree" (spD K (pcTr i))) : FnOk P w K mg base CX0 (k + 1) f fd ["_law_deck_here", "_law_items"] (spD K (pcTr j)) := by
  refine fn_mkD F scTr (fun ads R h => by obtain ⟨_, rfl, _⟩ := h; rfl) fun c ads R h hz => ?_
  obtain ⟨ns, rfl, h1, hj, hl, rfl⟩ := h
  obtain ⟨x, ns, rfl⟩ : ∃ x r, ns = x :: r := by cases ns with | nil => simp at h1 | cons x r => exact ⟨x, r, rfl⟩
  simp only [List.length_cons] at hj hl
  have hx : atI ((x :: ns).map PyData.int) 0 = some (.int x) := at_gen (k := 0) (by simp)
  by_cases h0 : ns = []
  · subst h0
    refine run_cons (Mid := fun _ => False) (rs_if (PT := (· = true)) (et_as (et_eqI (i := (([x].map PyData.int).length : Nat)) (j := 1) (ev_lenL (l := [x].map PyData.int) rfl m.len (by walk_at "var")) ev_int) (by simp)) (fun _ => ?_) (fun h => by cases h)) (fun _ h => h.elim)
    exact run_one (rs_retP (P := (· = .int x)) (ev_ixL (l := [x].map PyData.int) (by walk_at "var") ev_int hx) (fun d hd => ⟨.lf x, hd, by simp [Tr.lv]⟩))
  have hne : 1 ≤ ns.length := by cases ns with | nil => exact absurd rfl h0 | cons _ _ => simp
  obtain ⟨i, rfl⟩ : ∃ i, j = i + 1 := ⟨j - 1, by omega⟩
  have hrec := rec_ i rfl
  refine run_to (rs_if (PT := (· = false)) (et_as (et_eqI (i := (((x :: ns).map PyData.int).length : Nat)) (j := 1) (ev_lenL (l := (x :: ns).map PyData.int) rfl m.len (by walk_at "var")) ev_int) (by rw [List.length_map, List.length_cons]; exact decide_eq_false (by omega))) (fun h => by cases h) (fun _ => run_nil rfl)) ?_
  refine run_to (ds1 := [.deck, .dat (.list ((x :: ns).map PyData.int)), .own ([x].map PyData.int), .own (([] : List Int).map PyData.int), .un, .un, .un, .un]) (rs_parFF (i := 2) (j := 3) (PL := (· = [x].map PyData.int)) (PB := (· = ([] : List Int).map PyData.int)) rfl rfl (by decide) rfl rfl (ef_lst (ea_cons (ev_ixL (l := (x :: ns).map PyData.int) (by walk_at "var") ev_int hx) ea_nil) (fun l hl => by subst hl; show 1 ≤ 100000; decide)) (ef_lst ea_nil (fun l hl => by subst hl; show 0 ≤ 100000; decide)) (fun l e hl he => by subst hl; subst he; rfl)) ?_
  refine run_cons (Mid := fun ds' => ∃ (a b : List Int) (z4 z5 : SD), ds' = [.deck, .dat (.list ((x :: ns).map PyData.int)), .own (a.map PyData.int), .own (b.map PyData.int), z4, z5, .un, .un] ∧ (a ++ b).Perm (x :: ns) ∧ 1 ≤ a.length) (rs_for (items := ns.map PyData.int) (wk_list (ev_as (ev_slL (l := (x :: ns).map PyData.int) (o := some ((1 : Nat) : Int)) (u := none) (by walk_at "var") (eo_some ev_int) eo_none) (by rw [cut_drop]; rfl))) (tg_name (i := 4) (by walk_at "sto"))
    (fun i ds' => ∃ (a b : List Int) (z4 z5 : SD), ds' = [.deck, .dat (.list ((x :: ns).map PyData.int)), .own (a.map PyData.int), .own (b.map PyData.int), z4, z5, .un, .un] ∧ (a ++ b).Perm (x :: ns.take i) ∧ 1 ≤ a.length) ⟨[x], [], _, _, rfl, by simp, by simp⟩ ?_ ?_) ?_
  · rintro i d ds' hi ⟨a, b, z4, z5, rfl, hp, ha⟩
    obtain ⟨y, hy, rfl⟩ := get_int hi
    have hplen := hp.length_eq
    rw [List.length_append, List.length_cons, List.length_take] at hplen
    have htk : ns.take (i + 1) = ns.take i ++ [y] := by rw [List.take_add_one, hy]; rfl
    refine ⟨_, rfl, ?_⟩
    refine run_side (i := 2) (j := 3) (m := 5) (n := 4) (PT := fun _ => True) rfl (by walk_at "vis") rfl rfl (by walk_at "vis") rfl (by walk_at "sto") (by walk_at "vis") (by show 5 < 8; decide) rfl (by walk_at "vis") rfl (by decide) (by decide) (by decide) (by rw [List.length_map]; show _ < 100000; omega) (by rw [List.length_map]; show _ < 100000; omega)
      (et_eqIP (p := fun _ => True) (q := fun _ => True) (ev_draw ⟨hDraw⟩ rfl (i := 0) (q := (· = 2)) rfl (by walk_at "vis") rfl (ev_int.imp isI) (fun m hm => by omega) (fun _ _ _ _ _ => trivial)) (ev_int.imp (fun d hd => ⟨_, hd, trivial⟩)) (fun _ _ _ _ => trivial)) (fun _ => run_nil ?_) (fun _ => run_nil ?_)
    · refine ⟨a ++ [y], b, .dat (.int y), .un, by rw [List.map_append]; rfl, ?_, by simp⟩
      rw [htk, List.append_assoc]
      refine List.Perm.trans (List.Perm.append_left a (List.perm_append_comm (l₁ := [y]) (l₂ := b))) ?_
      rw [← List.append_assoc, ← List.cons_append]
      exact hp.append_right _
    · refine ⟨a, b ++ [y], .dat (.int y), .un, by rw [List.map_append]; rfl, ?_, ha⟩
      rw [htk, ← List.append_assoc, ← List.cons_append]
      exact hp.append_right _
  · rintro ds' ⟨a, b, z4, z5, rfl, hp, ha⟩
    rw [List.length_map, List.take_length] at hp
    exact ⟨a, b, z4, z5, rfl, hp, ha⟩
  rintro ds' ⟨a, b, z4, z5, rfl, hp, ha⟩
  have hplen := hp.length_eq
  rw [List.length_append, List.length_cons] at hplen
  refine run_cons (Mid := fun ds' => ∃ (a b : List Int), ds' = [.deck, .dat (.list ((x :: ns).map PyData.int)), .own (a.map PyData.int), .own (b.map PyData.int), z4, z5, .un, .un] ∧ (a ++ b).Perm (x :: ns) ∧ 1 ≤ a.length ∧ 1 ≤ b.length) (rs_if (PT := (· = decide (b = []))) (et_nilO (i := 3) rfl (by walk_at "vis") rfl) (fun h => ?_) (fun h => ?_)) ?_
  · have hb := of_decide_eq_true h.symm
    subst hb
    simp only [List.length_nil, Nat.add_zero] at hplen
    have hane : a ≠ [] := by rintro rfl; simp at ha
    obtain ⟨a', y, rfl⟩ : ∃ a' y, a = a' ++ [y] := ⟨_, _, (List.dropLast_concat_getLast hane).symm⟩
    rw [List.length_append, List.length_singleton] at hplen
    refine run_one (rs_popApp (i := 3) (j := 2) (l := []) (m := a'.map PyData.int) (d := .int y) rfl (by walk_at "vis") rfl (by show 0 < 100000; decide) rfl (by walk_at "vis") (by simp) (by decide) ?_)
    exact ⟨a', [y], rfl, by simpa using hp, by omega, by simp⟩
  · have hb := of_decide_eq_false h.symm
    exact run_nil ⟨a, b, rfl, hp, ha, by cases b with | nil => exact absurd rfl hb | cons _ _ => simp⟩
  rintro ds' ⟨a, b, rfl, hp, ha, hb⟩
  have hplen := hp.length_eq
  rw [List.length_append, List.length_cons] at hplen
  refine run_freeze (i := 2) (l := a.map PyData.int) rfl (run_freeze (i := 3) (l := b.map PyData.int) rfl ?_)
  refine run_cons (Mid := fun ds' => ∃ s t : T, ds' = [.deck, .dat (.list ((x :: ns).map PyData.int)), .dat (.list (a.map PyData.int)), .dat (.list (b.map PyData.int)), z4, z5, .dat (tD s), .dat (tD t)] ∧ (Tr.lv s).Perm a ∧ (Tr.lv t).Perm b)
    (rs_par (i := 6) (j := 7) (PA := fun d => ∃ t : T, d = tD t ∧ (Tr.lv t).Perm a) (PB := fun d => ∃ t : T, d = tD t ∧ (Tr.lv t).Perm b) rfl rfl (by decide) rfl rfl
      (ev_callD (PA := (· = [.deck, .dat (.list (a.map PyData.int))])) (Pc := pcTr i) ⟨hrec⟩ rfl (ed_deck 0 rfl (by walk_at "vis") rfl (ed_dat (by walk_at "var") ed_nil)) (fun l hl => ⟨_, ⟨a, hl, ha, by omega, by omega, rfl⟩, fun d hd => hd⟩))
      (ev_callD (PA := (· = [.deck, .dat (.list (b.map PyData.int))])) (Pc := pcTr i) ⟨hrec⟩ rfl (ed_deck 0 rfl (by walk_at "vis") rfl (ed_dat (by walk_at "var") ed_nil)) (fun l hl => ⟨_, ⟨b, hl, hb, by omega, by omega, rfl⟩, fun d hd => hd⟩))
      (fun d e hd he => by obtain ⟨s, rfl, hs⟩ := hd; obtain ⟨t, rfl, ht⟩ := he; exact ⟨s, t, rfl, hs, ht⟩)) ?_
  rintro ds' ⟨s, t, rfl, hs, ht⟩
  refine run_one (rs_retP (P := fun d => ∃ t : T, d = tD t ∧ (Tr.lv t).Perm (x :: ns)) (ev_if (PT := fun _ => True) (et_eqIP (p := fun _ => True) (q := fun _ => True) (ev_draw ⟨hDraw⟩ rfl (i := 0) (q := (· = 2)) rfl (by walk_at "vis") rfl (ev_int.imp isI) (fun m hm => by omega) (fun _ _ _ _ _ => trivial)) (ev_int.imp (fun d hd => ⟨_, hd, trivial⟩)) (fun _ _ _ _ => trivial))
    (fun _ => ev_to (P := (· = .tuple [tD s, tD t])) (ev_tup (ea_cons (by walk_at "var") (ea_cons (by walk_at "var") ea_nil)) (hl := by show 2 ≤ 100000; decide)) (fun d hd => ⟨.nd s t, hd, (hs.append ht).trans hp⟩))
    (fun _ => ev_to (P := (· = .tuple [tD t, tD s])) (ev_tup (ea_cons (by walk_at "var") (ea_cons (by walk_at "var") ea_nil)) (hl := by show 2 ≤ 100000; decide)) (fun d hd => ⟨.nd t s, hd, (List.perm_append_comm.trans (hs.append ht)).trans hp⟩))) (fun d hd => hd))

/-! _law_members(tree) -/
abbrev sMe : Stmt := top 25
theorem scMe : FnScope ["_law_tree_here"] ["_law_tree_here"] (defScope sMe) := ⟨rfl, rfl, rfl, by decide +kernel, rfl, by decide +kernel, by decide +kernel⟩
def pcMe (j : Nat) : List AD → (D → Prop) → Prop := fun ads R => ∃ t : T, ads = [.dat (tD t)] ∧ Tr.ht t ≤ j ∧ (Tr.lv t).length ≤ 100 ∧ R = (· = .list ((Tr.lo t).map PyData.int))
theorem ok_Me (m : Mg mg) (F : Fun K "_law_members" "_law_members" sMe f fd) (j : Nat) (rec_ : ∀ i, i + 1 = j → Has P w K mg base k "_law_members" (spD K (pcMe i))) : FnOk P w K mg base CX0 (k + 1) f fd ["_law_tree_here"] (spD K (pcMe j)) := by
  refine fn_mkD F scMe (fun ads R h => by obtain ⟨_, rfl, _⟩ := h; rfl) fun c ads R h hz => ?_
  obtain ⟨t, rfl, hh, hl, rfl⟩ := h
  cases t with
  | lf i =>
    exact run_cons (Mid := fun _ => False) (rs_if (PT := (· = true)) (et_not (b := false) (et_isT (t := .lf i) m rfl rfl (by walk_at "var"))) (fun _ => run_one (rs_ret (ev_as (ev_lst (ea_cons (by walk_at "var") ea_nil) (hl := by show 1 ≤ 100000; decide)) (by rw [Tr.lo_lf]; rfl)) rfl)) (fun h => by cases h)) (fun _ h => h.elim)
  | nd l r =>
    simp only [Tr.ht] at hh
    obtain ⟨i, rfl⟩ : ∃ i, j = i + 1 := ⟨j - 1, by omega⟩
    have hrec := rec_ i rfl
    simp only [Tr.lv, List.length_append] at hl
    have hll := lo_len l; have hlr := lo_len r
    refine run_to (rs_if (PT := (· = false)) (et_not (b := true) (et_isT (t := .nd l r) m rfl rfl (by walk_at "var"))) (fun h => by cases h) (fun _ => run_nil rfl)) ?_
    refine run_one (rs_ret (ev_as (ev_lc (ef_sorted (bs := Tr.lo l ++ Tr.lo r) (enc := PyData.int) (key := PyData.int) rfl m.sorted (io_ints _) (by rw [List.length_append]; show _ ≤ 100000; omega) (fun b _ => by simp [PyData.depth]) (ev_to (P := (· = .list ((Tr.lo l).map PyData.int ++ (Tr.lo r).map PyData.int)))
      (ev_catL (ev_callD (PA := (· = [.dat (tD l)])) (Pc := pcMe i) ⟨hrec⟩ rfl (ed_dat (ev_ixT (l := [tD l, tD r]) (by walk_at "var") ev_int rfl) ed_nil) (fun a ha => ⟨_, ⟨l, ha, by omega, by omega, rfl⟩, fun d hd => hd⟩)) (ev_callD (PA := (· = [.dat (tD r)])) (Pc := pcMe i) ⟨hrec⟩ rfl (ed_dat (ev_ixT (l := [tD l, tD r]) (by walk_at "var") ev_int rfl) ed_nil) (fun a ha => ⟨_, ⟨r, ha, by omega, by omega, rfl⟩, fun d hd => hd⟩)) (by rw [List.length_map, List.length_map]; show _ ≤ 100000; omega))
      (fun d hd => .inl (by rw [hd, List.map_append]))))) (by rw [srt_ints, Tr.lo_nd])) rfl)

/-! _law_lots(tree) -/
abbrev sLl : Stmt := top 26
theorem scLl : FnScope ["_law_tree_here"] ["_law_tree_here"] (defScope sLl) := ⟨rfl, rfl, rfl, by decide +kernel, rfl, by decide +kernel, by decide +kernel⟩
def pcLl (j : Nat) : List AD → (D → Prop) → Prop := fun ads R => ∃ t : T, ads = [.dat (tD t)] ∧ Tr.ht t ≤ j ∧ (Tr.lv t).length ≤ 100 ∧ R = (· = .list ((Tr.lots2 t).map rowT))
theorem ok_Ll (m : Mg mg) (F : Fun K "_law_lots" "_law_lots" sLl f fd) (j : Nat) (hMe : Has P w K mg base k "_law_members" (spD K (pcMe j))) (rec_ : ∀ i, i + 1 = j → Has P w K mg base k "_law_lots" (spD K (pcLl i))) : FnOk P w K mg base CX0 (k + 1) f fd ["_law_tree_here"] (spD K (pcLl j)) := by
  refine fn_mkD F scLl (fun ads R h => by obtain ⟨_, rfl, _⟩ := h; rfl) fun c ads R h hz => ?_
  obtain ⟨t, rfl, hh, hl, rfl⟩ := h
  cases t with
  | lf i =>
    exact run_cons (Mid := fun _ => False) (rs_if (PT := (· = true)) (et_not (b := false) (et_isT (t := .lf i) m rfl rfl (by walk_at "var"))) (fun _ => run_one (rs_ret (ev_as (ev_lst ea_nil (hl := by show 0 ≤ 100000; decide)) rfl) rfl)) (fun h => by cases h)) (fun _ h => h.elim)
  | nd l r =>
    have hh0 := hh
    simp only [Tr.ht] at hh
    obtain ⟨i, rfl⟩ : ∃ i, j = i + 1 := ⟨j - 1, by omega⟩
    have hrec := rec_ i rfl
    have hl0 := hl
    simp only [Tr.lv, List.length_append] at hl
    have q1 := Tr.lots_len l; have q2 := Tr.lots_len r
    have q3 := (Tr.lots2_perm l).length_eq; have q4 := (Tr.lots2_perm r).length_eq
    refine run_to (rs_if (PT := (· = false)) (et_not (b := true) (et_isT (t := .nd l r) m rfl rfl (by walk_at "var"))) (fun h => by cases h) (fun _ => run_nil rfl)) ?_
    refine run_one (rs_ret (ev_as (ev_catL (l := (Tr.lots2 l).map rowT ++ (Tr.lots2 r).map rowT) (m := [rowT (Tr.lo (.nd l r))]) (ev_catL (ev_callD (PA := (· = [.dat (tD l)])) (Pc := pcLl i) ⟨hrec⟩ rfl (ed_dat (ev_ixT (l := [tD l, tD r]) (by walk_at "var") ev_int rfl) ed_nil) (fun a ha => ⟨_, ⟨l, ha, by omega, by omega, rfl⟩, fun d hd => hd⟩)) (ev_callD (PA := (· = [.dat (tD r)])) (Pc := pcLl i) ⟨hrec⟩ rfl (ed_dat (ev_ixT (l := [tD l, tD r]) (by walk_at "var") ev_int rfl) ed_nil) (fun a ha => ⟨_, ⟨r, ha, by omega, by omega, rfl⟩, fun d hd => hd⟩)) (by rw [List.length_map, List.length_map]; show _ ≤ 100000; omega))
      (ev_lst (ea_cons (ev_as (ev_tupleL (l := (Tr.lo (.nd l r)).map PyData.int) rfl m.tuple (ev_callD (PA := (· = [.dat (tD (.nd l r))])) (Pc := pcMe (i + 1)) ⟨hMe⟩ rfl (ed_dat (by walk_at "var") ed_nil) (fun a ha => ⟨_, ⟨.nd l r, ha, hh0, hl0, rfl⟩, fun d hd => hd⟩))) rfl) ea_nil) (hl := by show 1 ≤ 100000; decide)) (by rw [List.length_append, List.length_map, List.length_map]; show _ + 1 ≤ 100000; omega)) (by simp [Tr.lots2])) rfl)

/-! _law_plain(tree) -/
abbrev sLp : Stmt := top 27
theorem scLp : FnScope ["_law_tree_here", "_law_one", "_law_other"] ["_law_tree_here"] (defScope sLp) := ⟨rfl, rfl, rfl, by decide +kernel, rfl, by decide +kernel, by decide +kernel⟩
theorem ok_Lp (m : Mg mg) (F : Fun K "_law_plain" "_law_plain" sLp f fd) (j : Nat) (hMe : Has P w K mg base k "_law_members" (spD K (pcMe j))) (rec_ : ∀ i, i + 1 = j → Has P w K mg base k "_law_plain" (spD K (pcMp i))) : FnOk P w K mg base CX0 (k + 1) f fd ["_law_tree_here"] (spD K (pcMp j)) := by
  refine fn_mkD F scLp (fun ads R h => by obtain ⟨_, rfl, _⟩ := h; rfl) fun c ads R h hz => ?_
  obtain ⟨t, rfl, hh, hl, hn, rfl⟩ := h
  cases t with
  | lf i =>
    exact run_cons (Mid := fun _ => False) (rs_if (PT := (· = true)) (et_not (b := false) (et_isT (t := .lf i) m rfl rfl (by walk_at "var"))) (fun _ => run_one (rs_ret (by walk_at "var") rfl)) (fun h => by cases h)) (fun _ h => h.elim)
  | nd l r =>
    simp only [Tr.ht] at hh
    obtain ⟨i, rfl⟩ : ∃ i, j = i + 1 := ⟨j - 1, by omega⟩
    have hrec := rec_ i rfl
    have hd := Tr.disj hn
    simp only [Tr.lv, List.length_append] at hl
    have e1 := (Tr.lv_pl l).length_eq; have e2 := (Tr.lv_pl r).length_eq
    have e3 := ht_pl l; have e4 := ht_pl r
    obtain ⟨ra, hra⟩ := Tr.lo_head (Tr.pl l)
    obtain ⟨rb, hrb⟩ := Tr.lo_head (Tr.pl r)
    refine run_to (rs_if (PT := (· = false)) (et_not (b := true) (et_isT (t := .nd l r) m rfl rfl (by walk_at "var"))) (fun h => by cases h) (fun _ => run_nil rfl)) ?_
    refine run_to (ds1 := [.dat (tD (.nd l r)), .dat (tD (Tr.pl l)), .dat (tD (Tr.pl r))]) (rs_par (i := 1) (j := 2) (PA := (· = tD (Tr.pl l))) (PB := (· = tD (Tr.pl r))) rfl rfl (by decide) rfl rfl
      (ev_callD (PA := (· = [.dat (tD l)])) (Pc := pcMp i) ⟨hrec⟩ rfl (ed_dat (ev_ixT (l := [tD l, tD r]) (by walk_at "var") ev_int rfl) ed_nil) (fun a ha => ⟨_, ⟨l, ha, by omega, by omega, hd.1, rfl⟩, fun d hd => hd⟩))
      (ev_callD (PA := (· = [.dat (tD r)])) (Pc := pcMp i) ⟨hrec⟩ rfl (ed_dat (ev_ixT (l := [tD l, tD r]) (by walk_at "var") ev_int rfl) ed_nil) (fun a ha => ⟨_, ⟨r, ha, by omega, by omega, hd.2.1, rfl⟩, fun d hd => hd⟩)) (fun d e hd he => by subst hd; subst he; rfl)) ?_
    refine run_one (rs_ret (ev_if (PT := (· = decide (Tr.mn l < Tr.mn r))) (et_as (et_lt (i := Tr.mn (Tr.pl l)) (j := Tr.mn (Tr.pl r))
      (ev_ixL (l := (Tr.lo (Tr.pl l)).map PyData.int) (ev_callD (PA := (· = [.dat (tD (Tr.pl l))])) (Pc := pcMe (i + 1)) ⟨hMe⟩ rfl (ed_dat (by walk_at "var") ed_nil) (fun a ha => ⟨_, ⟨Tr.pl l, ha, by omega, by omega, rfl⟩, fun d hd => hd⟩)) ev_int (by rw [hra]; exact at_gen (k := 0) (by simp)))
      (ev_ixL (l := (Tr.lo (Tr.pl r)).map PyData.int) (ev_callD (PA := (· = [.dat (tD (Tr.pl r))])) (Pc := pcMe (i + 1)) ⟨hMe⟩ rfl (ed_dat (by walk_at "var") ed_nil) (fun a ha => ⟨_, ⟨Tr.pl r, ha, by omega, by omega, rfl⟩, fun d hd => hd⟩)) ev_int (by rw [hrb]; exact at_gen (k := 0) (by simp)))) (by rw [Tr.mn_pl, Tr.mn_pl]))
      (fun h => ev_as (ev_tup (ea_cons (by walk_at "var") (ea_cons (by walk_at "var") ea_nil)) (hl := by show 2 ≤ 100000; decide)) (by
        have := of_decide_eq_true h.symm
        simp only [Tr.pl]; rw [if_pos this]; rfl))
      (fun h => ev_as (ev_tup (ea_cons (by walk_at "var") (ea_cons (by walk_at "var") ea_nil)) (hl := by show 2 ≤ 100000; decide)) (by
        have := of_decide_eq_false h.symm
        simp only [Tr.pl]; rw [if_neg this]; rfl))) rfl)

/-! _law_same(told, due) -/
abbrev sSa : Stmt := top 28
theorem scSa : FnScope ["_law_told", "_law_due"] ["_law_told", "_law_due"] (defScope sSa) := ⟨rfl, rfl, rfl, by decide +kernel, rfl, by decide +kernel, by decide +kernel⟩
def pcSa : List AD → (D → Prop) → Prop := fun ads R => ∃ (d : D) (l : List D), ads = [.dat d, .dat d] ∧ (d = .list l ∨ d = .tuple l) ∧ Shw d ∧ R = (· = .bool true)
theorem ok_Sa (m : Mg mg) (F : Fun K "_law_same" "_law_same" sSa f fd) : FnG P w K mg base (k + 1) f (spD K pcSa) := by
  refine fn_mkGD (ps := ["_law_told", "_law_due"]) F scSa (fun ads R h => by obtain ⟨_, _, rfl, _⟩ := h; rfl) (fun s us hl => ?_) fun c ads R h hz => ?_
  · obtain ⟨oc, od, kV, doc, pm, an, cdv, ct, osl, rfl, lk, hcd⟩ := F.ex
    match us, hl with
    | [_, _], _ => exact .of_eq rfl
  · obtain ⟨d, l, rfl, hd, sh, rfl⟩ := h
    exact run_one (rs_ret (ev_as (ev_eqS (ev_reprD hd rfl rfl m.repr sh (by walk_at "var")) (ev_reprD hd rfl rfl m.repr sh (by walk_at "var"))) (by simp)) rfl)

/-! _law_put(tree, item) -/
abbrev sPu : Stmt := top 29
theorem scPu : FnScope ["_law_tree_here", "_law_item", "_law_found", "_law_one"] ["_law_tree_here", "_law_item"] (defScope sPu) := ⟨rfl, rfl, rfl, by decide +kernel, rfl, by decide +kernel, by decide +kernel⟩
theorem ok_Pu (m : Mg mg) (F : Fun K "_law_put" "_law_put" sPu f fd) (j : Nat) (rec_ : ∀ i, i + 1 = j → Has P w K mg base k "_law_put" (spD K (pcTw i))) : FnOk P w K mg base CX0 (k + 1) f fd ["_law_tree_here", "_law_item"] (spD K (pcTw j)) := by
  refine fn_mkD F scPu (fun ads R h => by obtain ⟨_, _, rfl, _⟩ := h; rfl) fun c ads R h hz => ?_
  obtain ⟨t, x, rfl, hh, hl, rfl⟩ := h
  refine run_to (ds1 := [.dat (tD t), .dat (.int x), .own [tD (.nd t (.lf x))], .un]) (rs_setF (i := 2) (PL := (· = [tD (.nd t (.lf x))])) (by walk_at "sto") (ef_lst (ea_cons (ev_as (ev_tup (ea_cons (by walk_at "var") (ea_cons (by walk_at "var") ea_nil)) (hl := by show 2 ≤ 100000; decide)) rfl) ea_nil) (fun l hl => by subst hl; show 1 ≤ 100000; decide)) (fun l hl => by subst hl; rfl)) ?_
  cases t with
  | lf i =>
    refine run_to (rs_if (PT := (· = false)) (et_isT (t := .lf i) m rfl rfl (by walk_at "var")) (fun h => by cases h) (fun _ => run_nil rfl)) ?_
    exact run_one (rs_retO (i := 2) rfl (by walk_at "vis") hz rfl (by show PyData.list _ = _; rw [Tr.put_lf]; rfl))
  | nd l r =>
    simp only [Tr.ht] at hh
    obtain ⟨i, rfl⟩ : ∃ i, j = i + 1 := ⟨j - 1, by omega⟩
    have hrec := rec_ i rfl
    simp only [Tr.lv, List.length_append] at hl
    have q1 := put_len l x; have q2 := put_len r x
    have q3 := sz_le l (by omega); have q4 := sz_le r (by omega)
    refine run_to (ds1 := [.dat (tD (.nd l r)), .dat (.int x), .own ((Tr.put (.nd l r) x).map tD), .un]) (rs_if (PT := (· = true)) (et_isT (t := .nd l r) m rfl rfl (by walk_at "var")) (fun _ => ?_) (fun h => by cases h)) ?_
    · refine run_to (ds1 := [.dat (tD (.nd l r)), .dat (.int x), .own ([tD (.nd (.nd l r) (.lf x))] ++ (Tr.put l x).map (fun a => tD (.nd a r))), .un]) (rs_extendL (i := 2) (PL := (· = (Tr.put l x).map (fun a => tD (.nd a r)))) rfl (by walk_at "vis") rfl (ev_fresh (ef_map [("_law_one", 3)] (items := (Tr.put l x).map tD) (fun d => .tuple [d, tD r]) (by walk_at "blk") (wk_list (ev_callD (PA := (· = [.dat (tD l), .dat (.int x)])) (Pc := pcTw i) ⟨hrec⟩ rfl (ed_dat (ev_ixT (l := [tD l, tD r]) (by walk_at "var") ev_int rfl) (ed_dat (by walk_at "var") ed_nil)) (fun a ha => ⟨_, ⟨l, x, ha, by omega, by omega, rfl⟩, fun d hd => hd⟩))) (tg_name (i := 3) (by walk_at "sto")) (by rw [List.length_map]; show _ ≤ 100000; omega) (fun d hd => ⟨_, rfl, by simp, ev_tup (ea_cons (by walk_at "var") (ea_cons (ev_ixT (l := [tD l, tD r]) (by walk_at "var") ev_int rfl) ea_nil)) (hl := by show 2 ≤ 100000; decide)⟩))
        (fun a ha => ⟨a, rfl, by rw [ha, List.map_map]; rfl⟩)) (fun a ha => by subst ha; rw [List.length_map]; show 1 + _ ≤ 100000; omega) (fun a ha => by subst ha; rfl)) ?_
      refine run_one (rs_extendL (i := 2) (PL := (· = (Tr.put r x).map (fun a => tD (.nd l a)))) rfl (by walk_at "vis") rfl (ev_fresh (ef_map [("_law_one", 3)] (items := (Tr.put r x).map tD) (fun d => .tuple [tD l, d]) (by walk_at "blk") (wk_list (ev_callD (PA := (· = [.dat (tD r), .dat (.int x)])) (Pc := pcTw i) ⟨hrec⟩ rfl (ed_dat (ev_ixT (l := [tD l, tD r]) (by walk_at "var") ev_int rfl) (ed_dat (by walk_at "var") ed_nil)) (fun a ha => ⟨_, ⟨r, x, ha, by omega, by omega, rfl⟩, fun d hd => hd⟩))) (tg_name (i := 3) (by walk_at "sto")) (by rw [List.length_map]; show _ ≤ 100000; omega) (fun d hd => ⟨_, rfl, by simp, ev_tup (ea_cons (ev_ixT (l := [tD l, tD r]) (by walk_at "var") ev_int rfl) (ea_cons (by walk_at "var") ea_nil)) (hl := by show 2 ≤ 100000; decide)⟩))
        (fun a ha => ⟨a, rfl, by rw [ha, List.map_map]; rfl⟩)) (fun a ha => by subst ha; rw [List.length_append, List.length_map, List.length_map]; show 1 + _ + _ ≤ 100000; omega) (fun a ha => by
          subst ha
          rw [Tr.put_nd, List.map_cons, List.map_append, List.map_map, List.map_map]
          rfl))
    · exact run_one (rs_retO (i := 2) rfl (by walk_at "vis") hz rfl rfl)

/-! _law_all(n) -/
abbrev sAl : Stmt := top 30
theorem scAl : FnScope ["_law_n", "_law_found", "_law_item", "_law_more", "_law_tree_here", "_law_number"] ["_law_n"] (defScope sAl) := ⟨rfl, rfl, rfl, by decide +kernel, rfl, by decide +kernel, by decide +kernel⟩
def pcAl : List AD → (D → Prop) → Prop := fun ads R => ∃ n : Nat, ads = [.dat (.int (n : Nat))] ∧ 2 ≤ n ∧ n ≤ 6 ∧ R = (· = .list ((allL n).map rowL))
def numD : D → Nat
  | .tuple [.int i, _] => i.toNat
  | _ => 0
noncomputable def rowO (d : D) : D := rowL (dT (snd d), numD d)
theorem enum_row (l : List T) : (enumL (l.map tD)).map rowO = l.zipIdx.map rowL := by
  unfold enumL
  rw [List.zipIdx_map, List.map_map, List.map_map]
  refine List.map_congr_left fun p _ => ?_
  show rowL (dT (tD p.1), (((p.2 : Nat) : Int)).toNat) = _
  rw [dT_tD, Int.toNat_natCast]
theorem mem_enum {l : List T} {d : D} (h : d ∈ enumL (l.map tD)) : ∃ t ∈ l, ∃ i : Nat, d = .tuple [.int (i : Nat), tD t] := by
  unfold enumL at h
  obtain ⟨p, hp, rfl⟩ := List.mem_map.mp h
  rw [List.zipIdx_map] at hp
  obtain ⟨q, hq, rfl⟩ := List.mem_map.mp hp
  exact ⟨q.1, List.mem_of_getElem? (mem_zip hq), q.2, rfl⟩
theorem ok_Al (m : Mg mg) (F : Fun K "_law_all" "_law_all" sAl f fd) (hPu : Has P w K mg base k "_law_put" (spD K (pcTw 5))) (hLl : Has P w K mg base k "_law_lots" (spD K (pcLl 5))) : FnOk P w K mg base CX0 (k + 1) f fd ["_law_n"] (spD K pcAl) := by
  refine fn_mkD F scAl (fun ads R h => by obtain ⟨_, rfl, _⟩ := h; rfl) fun c ads R h hz => ?_
  obtain ⟨n, rfl, h2, h6, rfl⟩ := h
  have hal := all_len h2 h6
  refine run_to (ds1 := [.dat (.int (n : Nat)), .dat (.list ((Tr.at_ 0).map tD)), .un, .un, .un, .un]) (rs_set (i := 1) (by walk_at "sto") (ev_as (ev_lst (ea_cons ev_int ea_nil) (hl := by show 1 ≤ 100000; decide)) rfl)) ?_
  refine run_cons (Mid := fun ds' => ∃ z2 z3 z4 : SD, ds' = [.dat (.int (n : Nat)), .dat (.list ((Tr.all n).map tD)), z2, z3, z4, .un]) (rs_for (items := intsD 1 ((n : Int) - 1).toNat) (wk_range2 rfl m.range (ea_cons ev_int (ea_cons (by walk_at "var") ea_nil)) (by decide) (by decide) (by omega) (by omega)) (tg_name (i := 2) (by walk_at "sto"))
    (fun i ds' => ∃ z2 z3 z4 : SD, ds' = [.dat (.int (n : Nat)), .dat (.list ((Tr.at_ i).map tD)), z2, z3, z4, .un]) ⟨_, _, _, rfl⟩ ?_ ?_) ?_
  · rintro i d ds' hi ⟨z2, z3, z4, rfl⟩
    obtain ⟨hilt, rfl⟩ := intsD_get hi
    have hi5 : i + 1 ≤ 5 := by omega
    refine ⟨_, rfl, ?_⟩
    have ex : (1 + (i : Nat) : Int) = ((i + 1 : Nat) : Int) := by omega
    rw [ex]
    have hlen := at_len hi5
    have hsm : ∀ t ∈ Tr.at_ i, Tr.ht t ≤ 5 ∧ (Tr.lv t).length ≤ 100 := fun t ht => by
      have := (Tr.at_ok i t ht).2.length_eq
      have h7 := Tr.ht_lv t
      simp [Tr.upto] at this
      omega
    refine run_to (ds1 := [.dat (.int (n : Nat)), .dat (.list ((Tr.at_ i).map tD)), .dat (.int ((i + 1 : Nat) : Int)), .own [], z4, .un]) (rs_setF (i := 3) (by walk_at "sto") (ef_lst ea_nil (fun l hl => by subst hl; show 0 ≤ 100000; decide)) (fun l hl => by subst hl; rfl)) ?_
    refine run_cons (Mid := fun ds' => ∃ z4 : SD, ds' = [.dat (.int (n : Nat)), .dat (.list ((Tr.at_ i).map tD)), .dat (.int ((i + 1 : Nat) : Int)), .own ((Tr.at_ (i + 1)).map tD), z4, .un]) (rs_for (items := (Tr.at_ i).map tD) (wk_list (by walk_at "var")) (tg_name (i := 4) (by walk_at "sto"))
      (fun j ds' => ∃ z4 : SD, ds' = [.dat (.int (n : Nat)), .dat (.list ((Tr.at_ i).map tD)), .dat (.int ((i + 1 : Nat) : Int)), .own ((((Tr.at_ i).take j).flatMap fun t => Tr.put t ((i + 1 : Nat) : Int)).map tD), z4, .un]) ⟨_, rfl⟩ ?_ ?_) ?_
    · rintro j d ds' hj ⟨z4, rfl⟩
      rw [List.getElem?_map] at hj
      obtain ⟨t, ht, rfl⟩ := Option.map_eq_some_iff.mp hj
      have htm := List.mem_of_getElem? ht
      have hjl := (List.getElem?_eq_some_iff.mp ht).1
      have htk : (Tr.at_ i).take (j + 1) = (Tr.at_ i).take j ++ [t] := by rw [List.take_add_one, ht]; rfl
      have hle : ((((Tr.at_ i).take j).flatMap fun t => Tr.put t ((i + 1 : Nat) : Int)).map tD).length + ((Tr.put t ((i + 1 : Nat) : Int)).map tD).length ≤ 945 := by
        refine Nat.le_trans ?_ hlen
        have e1 : Tr.at_ i = (Tr.at_ i).take (j + 1) ++ (Tr.at_ i).drop (j + 1) := (List.take_append_drop ..).symm
        have e2 : (Tr.at_ (i + 1)).length = (((Tr.at_ i).take (j + 1)).flatMap fun t => Tr.put t ((i + 1 : Nat) : Int)).length + (((Tr.at_ i).drop (j + 1)).flatMap fun t => Tr.put t ((i + 1 : Nat) : Int)).length := by
          rw [Tr.at_, ← List.length_append, ← List.flatMap_append, ← e1]
        rw [e2, htk, List.flatMap_append, List.flatMap_cons, List.flatMap_nil, List.append_nil, List.length_append, List.length_map, List.length_map]
        omega
      refine ⟨_, rfl, run_one (rs_extendL (i := 3) (PL := (· = (Tr.put t ((i + 1 : Nat) : Int)).map tD)) rfl (by walk_at "vis") rfl (ev_to (P := (· = .list ((Tr.put t ((i + 1 : Nat) : Int)).map tD))) (ev_callD (PA := (· = [.dat (tD t), .dat (.int ((i + 1 : Nat) : Int))])) (Pc := pcTw 5) ⟨hPu⟩ rfl (ed_dat (by walk_at "var") (ed_dat (by walk_at "var") ed_nil)) (fun a ha => ⟨_, ⟨t, _, ha, (hsm t htm).1, (hsm t htm).2, rfl⟩, fun d hd => hd⟩)) (fun d hd => ⟨_, hd, rfl⟩)) (fun a ha => by subst ha; exact Nat.le_trans hle (by decide)) (fun a ha => ?_))⟩
      subst ha
      refine ⟨.dat (tD t), ?_⟩
      rw [htk, List.flatMap_append, List.flatMap_cons, List.flatMap_nil, List.append_nil, List.map_append]
      rfl
    · rintro ds' ⟨z4, rfl⟩
      refine ⟨z4, ?_⟩
      rw [List.length_map, List.take_length]; rfl
    rintro ds' ⟨z4, rfl⟩
    refine run_freeze (i := 3) (l := (Tr.at_ (i + 1)).map tD) rfl (run_one (rs_setP (i := 1) (P := (· = .list ((Tr.at_ (i + 1)).map tD))) (by walk_at "sto") (by walk_at "var") (fun d hd => ?_)))
    subst hd
    exact ⟨_, _, _, rfl⟩
  · rintro ds' ⟨z2, z3, z4, rfl⟩
    rw [intsD_length]
    refine ⟨z2, z3, z4, ?_⟩
    unfold Tr.all
    rw [show ((n : Int) - 1).toNat = n - 1 by omega]
  rintro ds' ⟨z2, z3, z4, rfl⟩
  have hok : ∀ t ∈ Tr.all n, (Tr.lv t).Perm (Tr.upto n) := fun t ht => (all_ok (by omega) ht).2
  refine run_one (rs_ret (ev_lc (ef_sorted (bs := (Tr.all n).zipIdx) (enc := rowL) (key := fun p => keyL p.1) rfl m.sorted (.heads (heads_l (by omega))) (by rw [List.length_zipIdx]; show _ ≤ 100000; omega) (fun p hp => ?_) (ev_to (P := (· = .list ((Tr.all n).zipIdx.map rowL)))
    (ev_as (ev_lc (ef_map [("_law_number", 5), ("_law_tree_here", 4)] (items := enumL ((Tr.all n).map tD)) rowO (by walk_at "blk") (wk_enum rfl m.enumerate (by walk_at "var")) (tg_two (i := 5) (j := 4) (by walk_at "sto") (by walk_at "sto")) (by rw [enumL_length, List.length_map]; show _ ≤ 100000; omega) (fun d hd => ?_))) (by rw [enum_row])) (fun d hd => .inl hd)))) rfl)
  · have hm := hok p.1 (List.mem_of_getElem? (mem_zip hp))
    have h1 := len_of hm
    have h3 := Tr.ht_lv p.1
    have h4 := dpt_tree p.1
    have h5 := dpt_rows (key p.1)
    unfold rowL keyL
    simp only [PyData.depth, PyData.depthAll]
    omega
  · obtain ⟨t, ht, i, rfl⟩ := mem_enum hd
    have hm := hok t ht
    have h1 := len_of hm
    have h3 := Tr.ht_lv t
    have h4 := Tr.lots_len t
    have h5 := (Tr.lots2_perm t).length_eq
    refine ⟨[(5, .int (i : Nat)), (4, tD t)], ⟨_, _, rfl, rfl⟩, by simp, ?_⟩
    have e : rowO (.tuple [.int (i : Nat), tD t]) = rowL (t, i) := by
      show rowL (dT (tD t), (((i : Nat) : Int)).toNat) = _
      rw [dT_tD, Int.toNat_natCast]
    rw [e]
    exact ev_tup (ea_cons (ev_as (ev_lc (ef_sorted (bs := Tr.lots2 t) (enc := rowT) (key := rowT) rfl m.sorted (io_rows fun L hL => (Tr.lots_sub t ((Tr.lots2_perm t).mem_iff.mp hL)).2) (by show _ ≤ 100000; omega) (fun b _ => Nat.le_trans (dpt_row b) (by decide)) (ev_to (P := (· = .list ((Tr.lots2 t).map rowT))) (ev_callD (PA := (· = [.dat (tD t)])) (Pc := pcLl 5) ⟨hLl⟩ rfl (ed_dat (by walk_at "var") ed_nil) (fun a ha => ⟨_, ⟨t, ha, by omega, by omega, rfl⟩, fun d hd => hd⟩)) (fun d hd => .inl hd)))) (by show PyData.list ((srtR (Tr.lots2 t)).map rowT) = _; rw [key_two]; rfl)) (ea_cons (by walk_at "var") (ea_cons (by walk_at "var") ea_nil))) (hl := by show 3 ≤ 100000; decide)
end

end K8

set_option Elab.async false
set_option maxRecDepth 100000
set_option exponentiation.threshold 2000
set_option linter.all false
set_option maxHeartbeats 1000000
namespace K8
open PySem L2 Dl
local macro_rules | `(tactic| walk_at "vis") => `(tactic| first | exact Or.inl rfl | exact Or.inr (Or.inl rfl) | exact Or.inr (Or.inr rfl))
local macro_rules | `(tactic| walk_at "sto") => `(tactic| first | exact ⟨rfl, Or.inl rfl, Or.inl rfl⟩ | exact ⟨rfl, Or.inl rfl, Or.inr rfl⟩ | exact ⟨rfl, Or.inr rfl, Or.inl rfl⟩)
local macro_rules | `(tactic| walk_at "var") => `(tactic| first
  | exact ev_var 0 rfl (by walk_at "vis") rfl | exact ev_var 1 rfl (by walk_at "vis") rfl | exact ev_var 2 rfl (by walk_at "vis") rfl | exact ev_var 3 rfl (by walk_at "vis") rfl
  | exact ev_var 4 rfl (by walk_at "vis") rfl | exact ev_var 5 rfl (by walk_at "vis") rfl | exact ev_var 6 rfl (by walk_at "vis") rfl | exact ev_var 7 rfl (by walk_at "vis") rfl
  | exact ev_var 8 rfl (by walk_at "vis") rfl | exact ev_var 9 rfl (by walk_at "vis") rfl | exact ev_var 10 rfl (by walk_at "vis") rfl | exact ev_var 11 rfl (by walk_at "vis") rfl
  | exact ev_var 12 rfl (by walk_at "vis") rfl | exact ev_var 13 rfl (by walk_at "vis") rfl | exact ev_var 14 rfl (by walk_at "vis") rfl | exact ev_var 15 rfl (by walk_at "vis") rfl)

local macro_rules | `(tactic| walk_at "ev") => `(tactic| first
  | exact ev_int | exact ev_bl | exact ev_str | exact ev_non
  | walk_at "var"
  | (refine ev_neg ?_ <;> walk_at "ev")
  | (refine ev_add ?_ ?_ <;> walk_at "ev")
  | (refine ev_sub ?_ ?_ <;> walk_at "ev"))

local macro_rules | `(tactic| walk_at "blk") => `(tactic| (dsimp only; decide +kernel))
open PySem.W (alike alikeAll AllAlike Sortable)
def fstD : D → D
  | .tuple (a :: _) => a
  | d => d
def thdD : D → D
  | .tuple [_, _, a] => a
  | d => d
def idxT (n : Nat) (t : T) : Nat := (allS n).idxOf t
theorem idx_at {n : Nat} {t : T} (h : t ∈ allS n) : (allS n)[idxT n t]? = some t := by
  have hj : (allS n).idxOf t < (allS n).length := List.idxOf_lt_length_of_mem h
  unfold idxT
  rw [List.getElem?_eq_getElem hj, List.getElem_idxOf hj]
theorem idx_no {n m : Nat} {s t : T} (hm : m < idxT n t) (hs : (allS n)[m]? = some s) : s ≠ t := by
  intro e
  subst e
  have := List.not_of_lt_findIdx (p := (· == s)) (xs := allS n) (i := m) (by unfold idxT List.idxOf at hm; exact hm)
  obtain ⟨q1, q2⟩ := List.getElem?_eq_some_iff.mp hs
  simp [q2] at this
theorem lay_keys (l : List T) : PyData.canLayAll0 (l.map keyL) = true := by
  induction l with
  | nil => simp [PyData.canLayAll0]
  | cons n ns ih => simp [PyData.canLayAll0, PyData.canLay0, ih, keyL, lay_rows]
theorem dpt_keyL (t : T) : (keyL t).depth ≤ 2 := by
  have := dpt_rows (key t)
  unfold keyL; simp only [PyData.depth]; omega
theorem dpt_keys : ∀ l : List T, PyData.depthAll (l.map keyL) ≤ 2
  | [] => by simp [PyData.depthAll]
  | x :: xs => by
    have := dpt_keyL x; have := dpt_keys xs
    simp only [List.map_cons, PyData.depthAll]; omega
theorem shaped_keyL (t : T) : SeqAt.shaped (keyL t) = true := by
  have := dpt_keyL t
  unfold SeqAt.shaped
  rw [Bool.and_eq_true]
  refine ⟨?_, by rw [decide_eq_true_eq]; omega⟩
  unfold keyL
  simp only [PyData.canLay0, lay_rows]
theorem shaped_keys (l : List T) : SeqAt.shaped (.list (l.map keyL)) = true := by
  have := dpt_keys l
  unfold SeqAt.shaped
  rw [Bool.and_eq_true]
  refine ⟨by simp only [PyData.canLay0, lay_keys], ?_⟩
  rw [decide_eq_true_eq]; simp only [PyData.depth]; omega
theorem counts {n : Nat} (h2 : 2 ≤ n) (h6 : n ≤ 6) : atI [PyData.int 1, .int 3, .int 15, .int 105, .int 945] ((n : Int) - 2) = some (.int ((allS n).length : Nat)) := by
  rw [(allS_perm n).length_eq]
  have : n = 2 ∨ n = 3 ∨ n = 4 ∨ n = 5 ∨ n = 6 := by omega
  rcases this with rfl | rfl | rfl | rfl | rfl
  · rw [Tr.count2]; rfl
  · rw [Tr.count3]; rfl
  · rw [Tr.count4]; rfl
  · rw [Tr.count5]; rfl
  · rw [Tr.count6]; rfl
theorem is_tup {n : Nat} {t : T} (h2 : 2 ≤ n) (hv : (Tr.lv t).Perm (Tr.upto n)) : ∃ l, tD t = .tuple l := by
  cases t with
  | lf i => have := len_of hv; simp [Tr.lv] at this; omega
  | nd a b => exact ⟨_, rfl⟩
theorem small_of {n : Nat} {t : T} (h6 : n ≤ 6) (hv : (Tr.lv t).Perm (Tr.upto n)) : ∀ x ∈ Tr.lv t, 0 ≤ x ∧ x < 8 := fun x hx => by
  have := Tr.upto_mem.mp (hv.mem_iff.mp hx); omega
theorem wt_of {n : Nat} {t : T} (h6 : n ≤ 6) (hv : (Tr.lv t).Perm (Tr.upto n)) : Wt (tD t) 28 6 := by
  have h1 := len_of hv
  have h3 := Tr.ht_lv t
  exact (wt_tree t (small_of h6 hv)).up (by omega) (by omega)
theorem wk_of {n : Nat} {t : T} (h6 : n ≤ 6) (hv : (Tr.lv t).Perm (Tr.upto n)) : Wt (keyT t) 150 2 := by
  have h1 := len_of hv
  refine (wt_key (small_of h6 hv)).up ?_ (Nat.le_refl _)
  rw [h1]
  exact Nat.le_trans (Nat.mul_le_mul (Nat.add_le_add_right (Nat.mul_le_mul_left 4 h6) 1) h6) (by decide)
section
variable {P : Program} {w : World} {K : Frag} {mg : Str → Option Value} {base : Heap} {k : Nat} {f : Addr} {fd : FuncData}
abbrev sLaw : Stmt := top 31
def nLaw : List Str := ["_law_script", "_law_deck_here", "_law_n", "_law_rows", "_law_due", "_law_lots_here", "_law_told", "_law_turn", "_law_tree_here", "_law_at", "_law_other", "_law_row", "_law_lot"]
theorem scLaw : FnScope nLaw ["_law_script"] (defScope sLaw) := ⟨rfl, rfl, rfl, by decide +kernel, rfl, by decide +kernel, by decide +kernel⟩
theorem ok_rest (m : Mg mg) (hDraw : Has P w K mg base k "_law_draw" (spD K pcDraw)) (hPick : Has P w K mg base k "_law_pick" (spD K pcPick)) (hAl : Has P w K mg base k "_law_all" (spD K pcAl)) (hAt : Has P w K mg base k "all_trees" (spD K pcAt)) (hAt1 : Has1 P w K mg base k "all_trees" "n" (spD K pcAt))
    (hSa : HasG P w K mg base k "_law_same" (spD K pcSa)) (hTr : Has P w K mg base k "_law_tree" (spD K (pcTr 5))) (hLs : Has P w K mg base k "lots_of" (spD K pcLs)) (hPt : Has P w K mg base k "plain_tree" (spD K pcPt)) (hLp : Has P w K mg base k "_law_plain" (spD K (pcMp 5))) (hIt : Has P w K mg base k "is_tree" (spD K pcIt)) (c : Ct) (z0 : SD) :
    Run ⟨P, w, K, mg, base, nLaw, defScope sLaw, k, fun _ => true, true⟩ c ((defBody sLaw).drop 1) ([z0, .deck] ++ List.replicate (nLaw.length - 2) .un) { nx := fun _ => False, rt := (· = .bool true) } := by
  refine run_cons (Mid := fun ds' => ∃ n : Nat, 2 ≤ n ∧ n ≤ 6 ∧ ds' = [z0, .deck, .dat (.int (n : Nat)), .un, .un, .un, .un, .un, .un, .un, .un, .un, .un]) (rs_setP (i := 2) (P := fun d => ∃ n : Nat, d = .int (n : Nat) ∧ 2 ≤ n ∧ n ≤ 6) (by walk_at "sto")
    (ev_callD (PA := (· = [.deck, .dat (.tuple [.int 4, .int 5, .int 3, .int 2, .int 4, .int 5, .int 6, .int 3])])) (Pc := pcPick) ⟨hPick⟩ rfl (ed_deck 1 rfl (by walk_at "vis") rfl (ed_dat (ev_tup (ea_cons ev_int (ea_cons ev_int (ea_cons ev_int (ea_cons ev_int (ea_cons ev_int (ea_cons ev_int (ea_cons ev_int (ea_cons ev_int ea_nil)))))))) (hl := by show 8 ≤ 100000; decide)) ed_nil))
      (fun l hl => ⟨_, ⟨_, hl, by show 1 ≤ 8; decide, by show 8 ≤ 100000; decide, rfl⟩, fun d hd => by
        simp only [List.mem_cons, List.not_mem_nil, or_false] at hd
        rcases hd with rfl | rfl | rfl | rfl | rfl | rfl | rfl | rfl
        · exact ⟨4, rfl, by decide, by decide⟩
        · exact ⟨5, rfl, by decide, by decide⟩
        · exact ⟨3, rfl, by decide, by decide⟩
        · exact ⟨2, rfl, by decide, by decide⟩
        · exact ⟨4, rfl, by decide, by decide⟩
        · exact ⟨5, rfl, by decide, by decide⟩
        · exact ⟨6, rfl, by decide, by decide⟩
        · exact ⟨3, rfl, by decide, by decide⟩⟩)) (fun d hd => by obtain ⟨n, rfl, h2, h6⟩ := hd; exact ⟨n, h2, h6, rfl⟩)) ?_
  rintro ds' ⟨n, h2, h6, rfl⟩
  have hal := all_len h2 h6
  have hSl := (allS_perm n).length_eq
  have hLl : (allL n).length = (allS n).length := by rw [← allL_fst, List.length_map]
  have hok : ∀ t ∈ allS n, (Tr.lv t).Perm (Tr.upto n) := fun t ht => (all_ok (by omega) (allS_mem.mp ht)).2
  refine run_to (ds1 := [z0, .deck, .dat (.int (n : Nat)), .dat (.list ((allL n).map rowL)), .un, .un, .un, .un, .un, .un, .un, .un, .un]) (rs_set (i := 3) (by walk_at "sto") (ev_callD (PA := (· = [.dat (.int (n : Nat))])) (Pc := pcAl) ⟨hAl⟩ rfl (ed_dat (by walk_at "var") ed_nil) (fun l hl => ⟨_, ⟨n, hl, h2, h6, rfl⟩, fun d hd => hd⟩))) ?_
  have hmapT : (((allL n).map rowL).map thdD) = (allS n).map tD := by
    rw [← allL_fst, List.map_map, List.map_map]; rfl
  have hmapK : (((allL n).map rowL).map fstD) = (allS n).map keyL := by
    rw [← allL_fst, List.map_map, List.map_map]; rfl
  refine run_to (ds1 := [z0, .deck, .dat (.int (n : Nat)), .dat (.list ((allL n).map rowL)), .dat (.tuple ((allS n).map tD)), .dat (.list ((allS n).map keyL)), .un, .un, .un, .un, .un, .un, .un]) (rs_par (i := 4) (j := 5) (PA := (· = .tuple ((allS n).map tD))) (PB := (· = .list ((allS n).map keyL))) rfl rfl (by decide) rfl rfl
    (ev_tupleL rfl m.tuple (ev_as (ev_lc (ef_map [("_law_row", 11)] (items := (allL n).map rowL) thdD (by walk_at "blk") (wk_list (by walk_at "var")) (tg_name (i := 11) (by walk_at "sto")) (by rw [List.length_map, hLl, hSl]; show _ ≤ 100000; omega) (fun d hd => by
      obtain ⟨p, hp, rfl⟩ := List.mem_map.mp hd
      exact ⟨_, rfl, by simp, ev_ixT (l := [keyL p.1, .int (p.2 : Nat), tD p.1]) (by walk_at "var") ev_int rfl⟩))) (by rw [hmapT])))
    (ev_as (ev_lc (ef_map [("_law_row", 11)] (items := (allL n).map rowL) fstD (by walk_at "blk") (wk_list (by walk_at "var")) (tg_name (i := 11) (by walk_at "sto")) (by rw [List.length_map, hLl, hSl]; show _ ≤ 100000; omega) (fun d hd => by
      obtain ⟨p, hp, rfl⟩ := List.mem_map.mp hd
      exact ⟨_, rfl, by simp, ev_ixT (l := [keyL p.1, .int (p.2 : Nat), tD p.1]) (by walk_at "var") ev_int rfl⟩))) (by rw [hmapK])) (fun d e hd he => by subst hd; subst he; rfl)) ?_
  refine run_to (ds1 := [z0, .deck, .dat (.int (n : Nat)), .dat (.list ((allL n).map rowL)), .dat (.tuple ((allS n).map tD)), .dat (.list ((allS n).map keyL)), .dat (.tuple ((allS n).map tD)), .un, .un, .un, .un, .un, .un]) (rs_setP (i := 6) (P := (· = .tuple ((allS n).map tD))) (by walk_at "sto") (ev_if (PT := fun _ => True) (et_eqIP (p := fun _ => True) (q := fun _ => True) (ev_draw ⟨hDraw⟩ rfl (i := 1) (q := (· = 2)) rfl (by walk_at "vis") rfl (ev_int.imp isI) (fun m hm => by omega) (fun _ _ _ _ _ => trivial)) (ev_int.imp (fun d hd => ⟨_, hd, trivial⟩)) (fun _ _ _ _ => trivial))
    (fun _ => ev_callD (PA := (· = [.dat (.int (n : Nat))])) (Pc := pcAt) ⟨hAt⟩ rfl (ed_dat (by walk_at "var") ed_nil) (fun l hl => ⟨_, ⟨n, hl, h2, h6, rfl⟩, fun d hd => hd⟩))
    (fun _ => ev_callK1 (Pc := pcAt) (R := (· = .tuple ((allS n).map tD))) ⟨hAt1⟩ rfl (d1 := .int (n : Nat)) (by walk_at "var") ⟨n, rfl, h2, h6, rfl⟩ (fun d hd => hd))) (fun d hd => by subst hd; rfl)) ?_
  have wAll : Wt (.tuple ((allS n).map tD)) (29 * 945) 7 := ((WtA.map (f := tD) (w := 28) (dp := 6) (l := allS n) fun t ht => wt_of h6 (hok t ht)).tup).up (Nat.mul_le_mul (Nat.le_refl _) (by rw [hSl]; exact hal.2)) (Nat.le_refl _)
  have sh1 : Shw (.list [.tuple ((allS n).map tD), .int ((allS n).length : Nat)]) := Shw.of ((WtA.cons wAll (WtA.cons (wt_int (b := 20) (dp := 7) (by decide) (by have : (allS n).length < 2 ^ 20 := (by rw [hSl]; omega); omega)) WtA.nil)).lst) (by decide) (by decide)
  refine run_to (rs_if (PT := (· = false)) (et_not (b := true) (et_val (ev_callG (PA := (· = [.dat (.list [.tuple ((allS n).map tD), .int ((allS n).length : Nat)]), .dat (.list [.tuple ((allS n).map tD), .int ((allS n).length : Nat)])])) (P := (· = .bool true)) (Pc := pcSa) rfl ⟨hSa⟩ rfl
    (ed_dat (ev_lst (ea_cons (by walk_at "var") (ea_cons (ev_as (ev_lenT (l := (allS n).map tD) rfl m.len (by walk_at "var")) (by rw [List.length_map])) ea_nil)) (hl := by show 2 ≤ 100000; decide))
      (ed_dat (ev_lst (ea_cons (by walk_at "var") (ea_cons (ev_ixT (l := [.int 1, .int 3, .int 15, .int 105, .int 945]) (ev_tup (ea_cons ev_int (ea_cons ev_int (ea_cons ev_int (ea_cons ev_int (ea_cons ev_int ea_nil))))) (hl := by show 5 ≤ 100000; decide)) (ev_sub (by walk_at "var") ev_int) (counts h2 h6)) ea_nil)) (hl := by show 2 ≤ 100000; decide)) ed_nil))
    (fun l hl => ⟨_, ⟨_, _, hl, .inl rfl, sh1, rfl⟩, fun d hd => hd⟩)))) (fun h => by cases h) (fun _ => run_nil rfl)) ?_
  refine run_cons (Mid := fun ds' => ∃ z7 z8 z9 z10 : SD, ds' = [z0, .deck, .dat (.int (n : Nat)), .dat (.list ((allL n).map rowL)), .dat (.tuple ((allS n).map tD)), .dat (.list ((allS n).map keyL)), .dat (.tuple ((allS n).map tD)), z7, z8, z9, z10, .un, .un]) (rs_for (items := intsD 0 (4 : Int).toNat) (wk_range1 rfl m.range ev_int (by decide) (by decide)) (tg_name (i := 7) (by walk_at "sto"))
    (fun i ds' => ∃ z7 z8 z9 z10 : SD, ds' = [z0, .deck, .dat (.int (n : Nat)), .dat (.list ((allL n).map rowL)), .dat (.tuple ((allS n).map tD)), .dat (.list ((allS n).map keyL)), .dat (.tuple ((allS n).map tD)), z7, z8, z9, z10, .un, .un]) ⟨_, _, _, _, rfl⟩ ?_ (fun ds' h => h)) ?_
  · rintro i d ds' hi ⟨z7, z8, z9, z10, rfl⟩
    refine ⟨_, rfl, ?_⟩
    have hup : (Tr.upto n).length = n := by simp [Tr.upto]
    refine run_cons (Mid := fun ds' => ∃ t : T, (Tr.lv t).Perm (Tr.upto n) ∧ ds' = [z0, .deck, .dat (.int (n : Nat)), .dat (.list ((allL n).map rowL)), .dat (.tuple ((allS n).map tD)), .dat (.list ((allS n).map keyL)), .dat (.tuple ((allS n).map tD)), .dat d, .dat (tD t), z9, z10, .un, .un]) (rs_setP (i := 8) (P := fun d => ∃ t : T, d = tD t ∧ (Tr.lv t).Perm (Tr.upto n)) (by walk_at "sto")
      (ev_callD (PA := (· = [.deck, .dat (.list ((Tr.upto n).map PyData.int))])) (Pc := pcTr 5) ⟨hTr⟩ rfl (ed_deck 1 rfl (by walk_at "vis") rfl (ed_dat (ev_as (ev_lc (ef_listRg rfl m.list rfl m.range (by walk_at "var") (by omega))) (by rw [intsD_upto])) ed_nil)) (fun l hl => ⟨_, ⟨_, hl, by omega, by omega, by omega, rfl⟩, fun d hd => hd⟩)) (fun d hd => by obtain ⟨t, rfl, ht⟩ := hd; exact ⟨t, ht, rfl⟩)) ?_
    rintro ds' ⟨t, hv, rfl⟩
    have hnd := nodup_of hv
    have hpv : (Tr.lv (Tr.pl t)).Perm (Tr.upto n) := (Tr.lv_pl t).trans hv
    have hpm : Tr.pl t ∈ allS n := allS_mem.mpr (all_in (by omega) (Tr.plain_pl t hnd) hpv)
    have hix := idx_at hpm
    have hpp : Tr.pl (Tr.pl t) = Tr.pl t := Tr.pl_plain _ (Tr.plain_pl t hnd)
    have hkl : ((key t).map rowT).length ≤ Lm := by
      have := key_len t; have := Tr.lots_len t; have := len_of hv
      rw [List.length_map]; show _ ≤ 100000; omega
    refine run_to (ds1 := [z0, .deck, .dat (.int (n : Nat)), .dat (.list ((allL n).map rowL)), .dat (.tuple ((allS n).map tD)), .dat (.list ((allS n).map keyL)), .dat (.tuple ((allS n).map tD)), .dat d, .dat (tD t), .dat (.int (idxT n (Tr.pl t) : Nat)), z10, .un, .un]) (rs_setP (i := 9) (P := (· = .int (idxT n (Tr.pl t) : Nat))) (by walk_at "sto")
      (ev_indexD (l := (allS n).map keyL) (d := keyL t) (z := keyL (Tr.pl t)) (by walk_at "var") (ev_as (ev_lc (ef_map [("_law_lot", 12)] (items := (key t).map rowT) (fun d => d) (by walk_at "blk") (wk_tup ?lots) (tg_name (i := 12) (by walk_at "sto")) hkl (fun d hd => by
          obtain ⟨L, hL, rfl⟩ := List.mem_map.mp hd
          exact ⟨_, rfl, by simp, ev_tupleP (PA := (· = rowT L)) rfl m.tuple (by walk_at "var") (fun x hx => ⟨L.map PyData.int, .inr hx, rfl⟩)⟩))) (by rw [List.map_id']; rfl))
        (shaped_keys _) (shaped_keyL _) (by rw [List.getElem?_map, hix]; rfl) (by unfold keyL; rw [key_pl]; simp only [PyData.eqv, eqv_rowsA, decide_true]) (fun mm z' hm hz' => by
          rw [List.getElem?_map] at hz'
          obtain ⟨s, hs, rfl⟩ := Option.map_eq_some_iff.mp hz'
          have hne := idx_no hm hs
          have hsm := List.mem_of_getElem? hs
          unfold keyL
          simp only [PyData.eqv, eqv_rowsA]
          refine decide_eq_false fun e => hne ?_
          exact key_inj (n := n) (by omega) (allS_mem.mp hsm) (allS_mem.mp hpm) (e.trans (key_pl t).symm))) (fun d hd => by subst hd; rfl)) ?_
    case lots => exact ev_callD (PA := (· = [.dat (.int (n : Nat)), .dat (tD t)])) (P := (· = .tuple ((key t).map rowT))) (Pc := pcLs) ⟨hLs⟩ rfl (ed_dat (by walk_at "var") (ed_dat (by walk_at "var") ed_nil)) (fun a ha => ⟨_, ⟨n, t, ha, h2, h6, hv, rfl⟩, fun d hd => hd⟩)
    have hat : atI ((allS n).map tD) (idxT n (Tr.pl t) : Nat) = some (tD (Tr.pl t)) := atI_nat (by rw [List.getElem?_map, hix]; rfl)
    have w1 := wt_of h6 hpv
    have w2 := wk_of h6 hv
    have sh2 : Shw (.list [tD (Tr.pl t), keyT t]) := Shw.of ((WtA.cons w1 (WtA.cons (w2.up (Nat.le_refl _) (by decide)) WtA.nil)).lst) (by decide) (by decide)
    have ek : keyT (Tr.pl t) = keyT t := by unfold keyT; rw [key_pl]
    refine run_to (rs_if (PT := (· = false)) (et_not (b := true) (et_val (ev_callG (PA := (· = [.dat (.list [tD (Tr.pl t), keyT t]), .dat (.list [tD (Tr.pl t), keyT t])])) (P := (· = .bool true)) (Pc := pcSa) rfl ⟨hSa⟩ rfl
      (ed_dat (ev_lst (ea_cons (ev_callD (PA := (· = [.dat (.int (n : Nat)), .dat (tD t)])) (Pc := pcPt) ⟨hPt⟩ rfl (ed_dat (by walk_at "var") (ed_dat (by walk_at "var") ed_nil)) (fun a ha => ⟨_, ⟨n, t, ha, h2, h6, hv, rfl⟩, fun d hd => hd⟩)) (ea_cons (ev_as (ev_callD (PA := (· = [.dat (.int (n : Nat)), .dat (tD (Tr.pl t))])) (P := (· = keyT (Tr.pl t))) (Pc := pcLs) ⟨hLs⟩ rfl (ed_dat (by walk_at "var") (ed_dat (ev_ixT (l := (allS n).map tD) (by walk_at "var") (by walk_at "var") hat) ed_nil)) (fun a ha => ⟨_, ⟨n, Tr.pl t, ha, h2, h6, hpv, rfl⟩, fun d hd => hd⟩)) ek) ea_nil)) (hl := by show 2 ≤ 100000; decide))
        (ed_dat (ev_lst (ea_cons (ev_ixT (l := (allS n).map tD) (by walk_at "var") (by walk_at "var") hat) (ea_cons (ev_callD (PA := (· = [.dat (.int (n : Nat)), .dat (tD t)])) (Pc := pcLs) ⟨hLs⟩ rfl (ed_dat (by walk_at "var") (ed_dat (by walk_at "var") ed_nil)) (fun a ha => ⟨_, ⟨n, t, ha, h2, h6, hv, rfl⟩, fun d hd => hd⟩)) ea_nil)) (hl := by show 2 ≤ 100000; decide)) ed_nil))
      (fun l hl => ⟨_, ⟨_, _, hl, .inl rfl, sh2, rfl⟩, fun d hd => hd⟩)))) (fun h => by cases h) (fun _ => run_nil rfl)) ?_
    have hht := Tr.ht_lv t
    have hlen := len_of hv
    obtain ⟨lt, hlt⟩ := is_tup h2 hpv
    refine run_to (rs_if (PT := (· = false)) (et_not (b := true) (et_val (ev_callG (PA := (· = [.dat (tD (Tr.pl t)), .dat (tD (Tr.pl t))])) (P := (· = .bool true)) (Pc := pcSa) rfl ⟨hSa⟩ rfl
      (ed_dat (ev_ixT (l := (allS n).map tD) (by walk_at "var") (by walk_at "var") hat) (ed_dat (ev_callD (PA := (· = [.dat (tD t)])) (Pc := pcMp 5) ⟨hLp⟩ rfl (ed_dat (by walk_at "var") ed_nil) (fun a ha => ⟨_, ⟨t, ha, by omega, by omega, hnd, rfl⟩, fun d hd => hd⟩)) ed_nil))
      (fun l hl => ⟨_, ⟨_, lt, hl, .inr hlt, Shw.of w1 (by decide) (by decide), rfl⟩, fun d hd => hd⟩)))) (fun h => by cases h) (fun _ => run_nil rfl)) ?_
    refine run_cons (Mid := fun ds' => ∃ s : T, s ∈ allS n ∧ ds' = [z0, .deck, .dat (.int (n : Nat)), .dat (.list ((allL n).map rowL)), .dat (.tuple ((allS n).map tD)), .dat (.list ((allS n).map keyL)), .dat (.tuple ((allS n).map tD)), .dat d, .dat (tD t), .dat (.int (idxT n (Tr.pl t) : Nat)), .dat (tD s), .un, .un]) (rs_setP (i := 10) (P := fun d => ∃ s : T, s ∈ allS n ∧ d = tD s) (by walk_at "sto")
      (ev_callD (PA := (· = [.deck, .dat (.tuple ((allS n).map tD))])) (Pc := pcPick) ⟨hPick⟩ rfl (ed_deck 1 rfl (by walk_at "vis") rfl (ed_dat (by walk_at "var") ed_nil)) (fun l hl => ⟨_, ⟨_, hl, by rw [List.length_map, hSl]; exact hal.1, by rw [List.length_map, hSl]; show _ ≤ 100000; omega, rfl⟩, fun d hd => mem_tree hd⟩)) (fun d hd => by obtain ⟨s, hs, rfl⟩ := hd; exact ⟨s, hs, rfl⟩)) ?_
    rintro ds' ⟨s, hs, rfl⟩
    have hsv := hok s hs
    have hsp : Tr.pl s = s := Tr.pl_plain s (all_ok (by omega) (allS_mem.mp hs)).1
    have sh3 : Shw (.list [.bool true, tD s]) := Shw.of ((WtA.cons (wt_bool (w := 0) (dp := 6)) (WtA.cons (wt_of h6 hsv) WtA.nil)).lst) (by decide) (by decide)
    exact run_one (rs_if (PT := (· = false)) (et_not (b := true) (et_val (ev_callG (PA := (· = [.dat (.list [.bool true, tD s]), .dat (.list [.bool true, tD s])])) (P := (· = .bool true)) (Pc := pcSa) rfl ⟨hSa⟩ rfl
      (ed_dat (ev_lst (ea_cons (ev_callD (PA := (· = [.dat (.int (n : Nat)), .dat (tD s)])) (Pc := pcIt) ⟨hIt⟩ rfl (ed_dat (by walk_at "var") (ed_dat (by walk_at "var") ed_nil)) (fun a ha => ⟨_, ⟨n, s, ha, h2, h6, hsv, rfl⟩, fun d hd => hd⟩)) (ea_cons (ev_as (ev_callD (PA := (· = [.dat (.int (n : Nat)), .dat (tD s)])) (P := (· = tD (Tr.pl s))) (Pc := pcPt) ⟨hPt⟩ rfl (ed_dat (by walk_at "var") (ed_dat (by walk_at "var") ed_nil)) (fun a ha => ⟨_, ⟨n, s, ha, h2, h6, hsv, rfl⟩, fun d hd => hd⟩)) (by rw [hsp])) ea_nil)) (hl := by show 2 ≤ 100000; decide))
        (ed_dat (ev_lst (ea_cons ev_bl (ea_cons (by walk_at "var") ea_nil)) (hl := by show 2 ≤ 100000; decide)) ed_nil))
      (fun l hl => ⟨_, ⟨_, _, hl, .inl rfl, sh3, rfl⟩, fun d hd => hd⟩)))) (fun h => by cases h) (fun _ => run_nil ⟨_, _, _, _, rfl⟩))
  rintro ds' ⟨z7, z8, z9, z10, rfl⟩
  exact run_one (rs_ret ev_bl rfl)
end

end K8

set_option Elab.async false
set_option maxRecDepth 100000
set_option exponentiation.threshold 2000
set_option linter.all false
set_option maxHeartbeats 1000000
namespace K8
open PySem L2 Dl
local macro_rules | `(tactic| walk_at "vis") => `(tactic| first | exact Or.inl rfl | exact Or.inr (Or.inl rfl) | exact Or.inr (Or.inr rfl))
local macro_rules | `(tactic| walk_at "sto") => `(tactic| first | exact ⟨rfl, Or.inl rfl, Or.inl rfl⟩ | exact ⟨rfl, Or.inl rfl, Or.inr rfl⟩ | exact ⟨rfl, Or.inr rfl, Or.inl rfl⟩)
local macro_rules | `(tactic| walk_at "var") => `(tactic| first
  | exact ev_var 0 rfl (by walk_at "vis") rfl | exact ev_var 1 rfl (by walk_at "vis") rfl | exact ev_var 2 rfl (by walk_at "vis") rfl | exact ev_var 3 rfl (by walk_at "vis") rfl
  | exact ev_var 4 rfl (by walk_at "vis") rfl | exact ev_var 5 rfl (by walk_at "vis") rfl | exact ev_var 6 rfl (by walk_at "vis") rfl | exact ev_var 7 rfl (by walk_at "vis") rfl
  | exact ev_var 8 rfl (by walk_at "vis") rfl | exact ev_var 9 rfl (by walk_at "vis") rfl | exact ev_var 10 rfl (by walk_at "vis") rfl | exact ev_var 11 rfl (by walk_at "vis") rfl
  | exact ev_var 12 rfl (by walk_at "vis") rfl | exact ev_var 13 rfl (by walk_at "vis") rfl | exact ev_var 14 rfl (by walk_at "vis") rfl | exact ev_var 15 rfl (by walk_at "vis") rfl)

local macro_rules | `(tactic| walk_at "ev") => `(tactic| first
  | exact ev_int | exact ev_bl | exact ev_str | exact ev_non
  | walk_at "var"
  | (refine ev_neg ?_ <;> walk_at "ev")
  | (refine ev_add ?_ ?_ <;> walk_at "ev")
  | (refine ev_sub ?_ ?_ <;> walk_at "ev"))

local macro_rules | `(tactic| walk_at "blk") => `(tactic| (dsimp only; decide +kernel))
theorem start_raw {K : Frag} {H : Hp} {v : V} {N : List Str} (hn : 1 ≤ N.length) : State K {} (fun _ => none) H (fun _ => none) H (L2.start N [v]) (.raw v :: List.replicate (N.length - 1) .un) := by
  refine ⟨fun _ _ h => (by cases h), Ex.refl _, fun p h => absurd rfl h, fun a o h _ => h, trivial, (by unfold L2.start; simp), fun p h => (by cases h), fun i sd h => ?_, fun i j d1 d2 p _ h => ?_⟩
  · cases i with
    | zero => cases h; rfl
    | succ i =>
      rw [List.getElem?_cons_succ, List.getElem?_replicate] at h
      split at h
      · cases h; trivial
      · cases h
  · cases i with
    | zero => cases h
    | succ i =>
      rw [List.getElem?_cons_succ, List.getElem?_replicate] at h
      split at h <;> cases h
theorem ef_imp {I : Inf} {c : Ct} {ds : List SD} {e : Expr} {PL PM : List D → Prop} (h : EvF I c e ds PL) (hi : ∀ l, PL l → PM l) : EvF I c e ds PM := fun X F σ G H s Q k =>
  h X F σ G H s Q (fun p xs G' H' l x1 s1 np hg hd hl hh r hp => k p xs G' H' l x1 s1 np hg hd hl hh r (hi l hp))
def spDk (K : Frag) : Sp := fun vs H Q _ => ∃ (a : Addr) (ns : List Int), vs = [.ref a] ∧ SqL K H a (ns.map V.int) ∧ ns.length ≤ 63 ∧
  ∀ (dk cc : Addr) (H' : Hp) (cells : List Int) (mixed : Int), dk ≠ cc → cells.length ≤ 64 → 0 ≤ mixed → mixed < 2147483629 → H' dk = some (deckO cc mixed 0) → H' cc = some (.lst (cells.map V.int)) → Q (.ref dk) H'
section
variable {P : Program} {w : World} {K : Frag} {mg : Str → Option Value} {base : Heap} {k : Nat} {f : Addr} {fd : FuncData}
/-! _law_deck(script) -/
abbrev sDk : Stmt := top 21
theorem scDk : FnScope ["_law_script", "_law_mixed", "_law_cell"] ["_law_script"] (defScope sDk) := ⟨rfl, rfl, rfl, by decide +kernel, rfl, by decide +kernel, by decide +kernel⟩
theorem ok_Dk (m : Mg mg) (F : Fun K "_law_deck" "_law_deck" sDk f fd) : FnOk P w K mg base CX0 (k + 1) f fd ["_law_script"] (spDk K) := by
  refine F.ok scDk (fun vs H Q E h => ?_) (fun cdv A outer s H vs Q E hr h => ?_)
  · obtain ⟨a, ns, rfl, _⟩ := h; rfl
  · obtain ⟨a, ns, rfl, hs, hl, q⟩ := h
    refine ⟨_, pss_w, ?_⟩
    have body : RunD ⟨P, w, K, mg, base, ["_law_script", "_law_mixed", "_law_cell"], defScope sDk, k, fun _ => true, false⟩ ⟨{}, fun _ => none, H⟩ (defBody sDk) [.raw (.ref a), .un, .un] := by
      refine rund_to (ds1 := [.raw (.ref a), .dat (.int 13731060), .un]) (rs_set (A := { nx := fun _ => False, rt := fun _ => False }) (i := 1) (by walk_at "sto") ev_int) ?_
      refine rund_cons (Mid := fun ds' => ∃ (mx : Int) (z : SD), 0 ≤ mx ∧ mx < 2147483629 ∧ ds' = [.raw (.ref a), .dat (.int mx), z]) (rs_for (items := (ns.take 63).map PyData.int) (wk_list (ev_lc (ef_script (i := 0) (m := 63) (ns := ns) rfl (by walk_at "vis") rfl hs rfl (by omega)))) (tg_name (i := 2) (by walk_at "sto"))
        (fun i ds' => ∃ (mx : Int) (z : SD), 0 ≤ mx ∧ mx < 2147483629 ∧ ds' = [.raw (.ref a), .dat (.int mx), z]) ⟨_, _, by decide, by decide, rfl⟩ ?_ (fun ds' h => h)) ?_
      · rintro i d ds' hi ⟨mx, z, h0, h1, rfl⟩
        obtain ⟨x, hx, rfl⟩ := get_int hi
        refine ⟨_, rfl, run_one (rs_setP (i := 1) (P := IsI (fun i => 0 ≤ i ∧ i < 2147483629)) (by walk_at "sto") (ev_modP (p := fun _ => True) (q := (· = 2147483629)) (ev_intIP rfl m.int (ev_addP (p := fun _ => True) (q := fun _ => True) (ev_addP (p := fun _ => True) (q := fun _ => True)
          (ev_mulS (p := (· = mx)) (q := (· = 69621)) ((ev_var 1 rfl (by walk_at "vis") rfl).imp isI) (ev_int.imp isI) (fun i j hi hj => by subst hj; exact small_r (by decide) (by decide)) (fun _ _ _ _ => trivial))
          (ev_modP (p := fun _ => True) (q := (· = 2147483587)) (ev_intIP rfl m.int ((ev_var 2 rfl (by walk_at "vis") rfl).imp (fun d hd => ⟨x, hd, trivial⟩))) (ev_int.imp isI) (fun i j _ hj => by subst hj; decide) (fun _ _ _ _ => trivial)) (fun _ _ _ _ => trivial)) (ev_int.imp (fun d hd => ⟨_, hd, trivial⟩)) (fun _ _ _ _ => trivial))) (ev_int.imp isI) (fun i j _ hj => by subst hj; decide) (fun i j _ hj => by subst hj; exact ⟨Int.emod_nonneg _ (by decide), Int.emod_lt_of_pos _ (by decide)⟩))
          (fun d hd => by obtain ⟨y, rfl, g1, g2⟩ := hd; exact ⟨y, .dat (.int x), g1, g2, rfl⟩))⟩
      · rintro ds' ⟨mx, z, h0, h1, rfl⟩
        refine rund_ret (m := mx) (ef_imp (ef_rev (ev_listL rfl m.list (ev_lc (ef_script (i := 0) (m := 63) (ns := ns) rfl (by walk_at "vis") rfl hs rfl (by omega))))) (fun l hl' => ⟨(ns.take 63).reverse, by rw [hl', List.map_reverse], by rw [List.length_reverse, List.length_take]; omega⟩)) (by walk_at "var") ev_int h0 h1
    exact body _ (fits_def scDk hr) _ (fun _ => none) H _ (start_raw (by decide)) (fun dk cc H' cells mixed a1 a2 a3 a4 a5 a6 => q dk cc H' cells mixed a1 a2 a3 a4 a5 a6)
end
theorem start_deck {K : Frag} {H : Hp} {v : Option V} {dk cc : Addr} {cells : List Int} {mixed : Int} {n : Nat} (hne : dk ≠ cc) (hl : cells.length ≤ 64) (h0 : 0 ≤ mixed) (h1 : mixed < 2147483629) (hd : H dk = some (deckO cc mixed 0)) (hc : H cc = some (.lst (cells.map V.int))) :
    State K { deck := some (dk, cc) } (fun _ => none) H (fun _ => none) H (v :: some (.ref dk) :: List.replicate n none) (.un :: .deck :: List.replicate n .un) := by
  refine ⟨fun _ _ h => (by cases h), Ex.refl _, fun p h => absurd rfl h, fun a o h _ => h, ⟨rfl, rfl, hne, cells, mixed, 0, hl, h0, h1, by decide, hd, hc⟩, (by simp), fun p h => (by cases h), fun i sd h => ?_, fun i j d1 d2 p _ h => ?_⟩
  · match i, h with
    | 0, h => cases h; trivial
    | 1, h => cases h; exact ⟨dk, cc, rfl, rfl⟩
    | i + 2, h =>
      rw [List.getElem?_cons_succ, List.getElem?_cons_succ, List.getElem?_replicate] at h
      split at h
      · cases h; trivial
      · cases h
  · match i, h with
    | 0, h => cases h
    | 1, h => cases h
    | i + 2, h =>
      rw [List.getElem?_cons_succ, List.getElem?_cons_succ, List.getElem?_replicate] at h
      split at h <;> cases h

end K8

set_option Elab.async false
set_option maxRecDepth 100000
set_option exponentiation.threshold 2000
set_option linter.all false
set_option maxHeartbeats 1000000
namespace K8
open PySem L2 Dl
local macro_rules | `(tactic| walk_at "vis") => `(tactic| first | exact Or.inl rfl | exact Or.inr (Or.inl rfl) | exact Or.inr (Or.inr rfl))
local macro_rules | `(tactic| walk_at "sto") => `(tactic| first | exact ⟨rfl, Or.inl rfl, Or.inl rfl⟩ | exact ⟨rfl, Or.inl rfl, Or.inr rfl⟩ | exact ⟨rfl, Or.inr rfl, Or.inl rfl⟩)
local macro_rules | `(tactic| walk_at "var") => `(tactic| first
  | exact ev_var 0 rfl (by walk_at "vis") rfl | exact ev_var 1 rfl (by walk_at "vis") rfl | exact ev_var 2 rfl (by walk_at "vis") rfl | exact ev_var 3 rfl (by walk_at "vis") rfl
  | exact ev_var 4 rfl (by walk_at "vis") rfl | exact ev_var 5 rfl (by walk_at "vis") rfl | exact ev_var 6 rfl (by walk_at "vis") rfl | exact ev_var 7 rfl (by walk_at "vis") rfl
  | exact ev_var 8 rfl (by walk_at "vis") rfl | exact ev_var 9 rfl (by walk_at "vis") rfl | exact ev_var 10 rfl (by walk_at "vis") rfl | exact ev_var 11 rfl (by walk_at "vis") rfl
  | exact ev_var 12 rfl (by walk_at "vis") rfl | exact ev_var 13 rfl (by walk_at "vis") rfl | exact ev_var 14 rfl (by walk_at "vis") rfl | exact ev_var 15 rfl (by walk_at "vis") rfl)

local macro_rules | `(tactic| walk_at "ev") => `(tactic| first
  | exact ev_int | exact ev_bl | exact ev_str | exact ev_non
  | walk_at "var"
  | (refine ev_neg ?_ <;> walk_at "ev")
  | (refine ev_add ?_ ?_ <;> walk_at "ev")
  | (refine ev_sub ?_ ?_ <;> walk_at "ev"))

local macro_rules | `(tactic| walk_at "blk") => `(tactic| (dsimp only; decide +kernel))
section
variable {P : Program} {w : World} {K : Frag} {mg : Str → Option Value} {k : Nat} {f a : Addr} {fd : FuncData} {ns : List Int}
theorem ok_Law (F : Fun K "law" "law" sLaw f fd) (hr : Room (k + 1) callerA) (hl : ns.length ≤ 63) (hDk : ∀ base : Heap, Has P w K mg base k "_law_deck" (spDk K))
    (rest : ∀ (base : Heap) (c : Ct) (z0 : SD), Run ⟨P, w, K, mg, base, nLaw, defScope sLaw, k, fun _ => true, true⟩ c ((defBody sLaw).drop 1) ([z0, .deck] ++ List.replicate (nLaw.length - 2) .un) { nx := fun _ => False, rt := (· = .bool true) }) :
    TopRuns P w K mg f a ns := by
  have hbind : ∀ (s : Shared) (u : Value), BindsTo s fd ⟨[u], []⟩ [("_law_script", u)] := by
    obtain ⟨oc, od, kV, doc, pm, an, cdv, ct, osl, rfl, lk, hcd⟩ := F.ex
    exact fun s v => .of_eq rfl
  refine fn_top F scLaw hr hbind fun base cdv s H hr2 hs => ?_
  obtain ⟨fk, fdk, psk, hm, hk, hb, G0⟩ := hDk base
  have Fi := fits_defG (P := P) (w := w) (K := K) (mg := mg) (base := base) (f := f) (qual := "law") (cdv := cdv) (A := callerA) (outer := []) (s := s) (H := H) (E := E0) scLaw hr2 rfl
  refine ⟨_, pss_cons (ps_set (i := 1) scLaw.nd rfl (Or.inl rfl) (pe_call G0 hr2 rfl hm hk hb .nil pass0 (pa_cons (pv 0) pa_nil)) rfl (Or.inl rfl)) (pss_w (sts := (defBody sLaw).drop 1)), ?_⟩
  refine ⟨_, rfl, ?_⟩
  refine ⟨a, ns, rfl, hs, hl, fun dk cc H' cells mixed h1 h2 h3 h4 h5 h6 => ?_⟩
  exact rest base ⟨{ deck := some (dk, cc) }, fun _ => none, H'⟩ .un _ Fi _ (fun _ => none) H' _ (start_deck (n := nLaw.length - 2) h1 h2 h3 h4 h5 h6) ⟨fun _ _ _ _ _ _ z => z.elim, fun _ _ _ _ _ _ z => z.elim, fun _ _ _ _ _ _ z => z.elim, fun v G' H2 d _ r e => by
    subst e
    rw [r.bl'], fun _ _ _ _ _ _ _ _ _ _ _ _ z => z.elim, fun _ _ _ _ _ _ _ _ _ _ _ _ _ _ _ _ _ _ _ _ z => z.elim⟩
end
def DefAt (K : Frag) (mg : Str → Option Value) (x : Str) (st : Stmt) : Prop := ∃ f fd, mg x = some (.ref f) ∧ PySem.W.keepIn K (.ref f) = true ∧ Fun K x x st f fd
section
variable {P : Program} {w : World} {K : Frag} {mg : Str → Option Value} {base : Heap} {k j : Nat} {x : Str} {st : Stmt} {sp : Sp} {ps : List Str}
theorem Has.mono (h : Has P w K mg base j x sp) (hj : j ≤ k) : Has P w K mg base k x sp := by
  obtain ⟨f, fd, ps, h1, h2, h3, h4⟩ := h
  exact ⟨f, fd, ps, h1, h2, h3, h4.mono hj⟩
theorem HasG.mono (h : HasG P w K mg base j x sp) (hj : j ≤ k) : HasG P w K mg base k x sp := by
  obtain ⟨f, h1, h2, h4⟩ := h
  exact ⟨f, h1, h2, h4.mono hj⟩
theorem Has1.mono {k1 : Str} (h : Has1 P w K mg base j x k1 sp) (hj : j ≤ k) : Has1 P w K mg base k x k1 sp := by
  obtain ⟨f, fd, ps, g, gV, h1, h2, h3, h4, h5⟩ := h
  exact ⟨f, fd, ps, g, gV, h1, h2, h3, h4, h5.mono hj⟩
theorem DefAt.has (d : DefAt K mg x st) (hb : ∀ (kV doc pm : Value) (an : Option Addr) (cdv ct : Value) (us : List Value), us.length = ps.length → bindArgs (PySem.W.fnOf x x (defArgs st) (defBody st) (defScope st) .none kV doc pm an cdv ct) ⟨us, []⟩ = pure (ps.zip us))
    (ok : ∀ f fd, Fun K x x st f fd → FnOk P w K mg base CX0 k f fd ps sp) : Has P w K mg base k x sp := by
  obtain ⟨f, fd, h1, h2, F⟩ := d
  exact ⟨f, fd, ps, h1, h2, F.binds hb, ok f fd F⟩
theorem DefAt.hasG (d : DefAt K mg x st) (ok : ∀ f fd, Fun K x x st f fd → FnG P w K mg base k f sp) : HasG P w K mg base k x sp := by
  obtain ⟨f, fd, h1, h2, F⟩ := d
  exact ⟨f, h1, h2, ok f fd F⟩
def one1 {α : Type} : List α → List α → List α
  | [], [a] => [a]
  | _, _ => []
theorem DefAt.has1 {k1 p1 : Str} (d : DefAt K mg x st)
    (hb : ∀ (kV doc pm : Value) (an : Option Addr) (cdv ct : Value) (a : Value), bindArgs (PySem.W.fnOf x x (defArgs st) (defBody st) (defScope st) .none kV doc pm an cdv ct) ⟨[], [k1].zip [a]⟩ = pure ([p1].zip [a]))
    (ok : ∀ f fd, Fun K x x st f fd → FnOk P w K mg base CX0 k f fd [p1] sp) : Has1 P w K mg base k x k1 sp := by
  obtain ⟨f, fd, h1, h2, F⟩ := d
  refine ⟨f, fd, [p1], one1, one1, h1, h2, ⟨fun s us ws hK hl => ?_, fun {vs us zs ws} r1 r2 => ?_⟩, fun _ => rfl, ok f fd F⟩
  · obtain ⟨oc, od, kV, doc, pm, an, cdv, ct, osl, rfl, lk, hcd⟩ := F.ex
    match us, ws, hl with
    | [], [a], _ => exact .of_eq (hb kV doc pm an cdv ct a)
  · cases r1 with
    | nil =>
      match r2 with
      | .nil => exact .nil
      | .cons a .nil => exact .cons a .nil
      | .cons _ (.cons _ _) => exact .nil
    | cons _ _ => exact .nil
theorem rec_has {pc : Nat → List AD → (D → Prop) → Prop} {k0 : Nat} (d : DefAt K mg x st) (hb : ∀ (kV doc pm : Value) (an : Option Addr) (cdv ct : Value) (us : List Value), us.length = ps.length → bindArgs (PySem.W.fnOf x x (defArgs st) (defBody st) (defScope st) .none kV doc pm an cdv ct) ⟨us, []⟩ = pure (ps.zip us))
    (ok : ∀ (j : Nat) (f : Addr) (fd : FuncData), Fun K x x st f fd → (∀ i, i + 1 = j → Has P w K mg base (k0 + j) x (spD K (pc i))) → FnOk P w K mg base CX0 (k0 + j + 1) f fd ps (spD K (pc j))) : ∀ j, Has P w K mg base (k0 + j + 1) x (spD K (pc j))
  | 0 => d.has hb fun f fd F => ok 0 f fd F fun i h => absurd h (by omega)
  | j + 1 => d.has hb fun f fd F => ok (j + 1) f fd F fun i h => by
      obtain rfl : i = j := by omega
      exact rec_has d hb ok i
end
theorem with_def {K : Frag} {h : Heap} {mg : Str → Option Value} {x : Str} {st : Stmt} {f : Addr} {goal : Prop} (X : K.In h) (G : h.Ns mainGlobals mg) {od an : Option Addr} {sl : Array (Option Value)} {oc kV dc pm cd ct : Value}
    (a : PySem.W.nsIn K mainGlobals x = some (some (.ref f))) (l : K.lookup f = some ⟨oc, od, .func (PySem.W.fnOf x x (defArgs st) (defBody st) (defScope st) .none kV dc pm an cd ct), sl⟩) (c : PySem.W.codeIn K cd x = true) (k : PySem.W.keepIn K (.ref f) = true)
    (rest : DefAt K mg x st → goal) : goal := rest ⟨f, _, PySem.W.mg_of X G a, k, fun_mk l c k⟩
theorem with_none {K : Frag} {h : Heap} {mg : Str → Option Value} {x : Str} {goal : Prop} (X : K.In h) (G : h.Ns mainGlobals mg) (a : PySem.W.nsIn K mainGlobals x = some none) (rest : mg x = none → goal) : goal := rest (PySem.W.mg_none_of X G a)
theorem with_val {K : Frag} {h : Heap} {mg : Str → Option Value} {x : Str} {v : Value} {goal : Prop} (X : K.In h) (G : h.Ns mainGlobals mg) (a : PySem.W.nsIn K mainGlobals x = some (some v)) (rest : mg x = some v → goal) : goal := rest (PySem.W.mg_of X G a)

end K8

set_option Elab.async false
set_option maxRecDepth 100000
set_option exponentiation.threshold 2000
set_option linter.all false
set_option maxHeartbeats 1000000
namespace K8
open PySem L2 Dl
local macro_rules | `(tactic| walk_at "vis") => `(tactic| first | exact Or.inl rfl | exact Or.inr (Or.inl rfl) | exact Or.inr (Or.inr rfl))
local macro_rules | `(tactic| walk_at "sto") => `(tactic| first | exact ⟨rfl, Or.inl rfl, Or.inl rfl⟩ | exact ⟨rfl, Or.inl rfl, Or.inr rfl⟩ | exact ⟨rfl, Or.inr rfl, Or.inl rfl⟩)
local macro_rules | `(tactic| walk_at "var") => `(tactic| first
  | exact ev_var 0 rfl (by walk_at "vis") rfl | exact ev_var 1 rfl (by walk_at "vis") rfl | exact ev_var 2 rfl (by walk_at "vis") rfl | exact ev_var 3 rfl (by walk_at "vis") rfl
  | exact ev_var 4 rfl (by walk_at "vis") rfl | exact ev_var 5 rfl (by walk_at "vis") rfl | exact ev_var 6 rfl (by walk_at "vis") rfl | exact ev_var 7 rfl (by walk_at "vis") rfl
  | exact ev_var 8 rfl (by walk_at "vis") rfl | exact ev_var 9 rfl (by walk_at "vis") rfl | exact ev_var 10 rfl (by walk_at "vis") rfl | exact ev_var 11 rfl (by walk_at "vis") rfl
  | exact ev_var 12 rfl (by walk_at "vis") rfl | exact ev_var 13 rfl (by walk_at "vis") rfl | exact ev_var 14 rfl (by walk_at "vis") rfl | exact ev_var 15 rfl (by walk_at "vis") rfl)

local macro_rules | `(tactic| walk_at "ev") => `(tactic| first
  | exact ev_int | exact ev_bl | exact ev_str | exact ev_non
  | walk_at "var"
  | (refine ev_neg ?_ <;> walk_at "ev")
  | (refine ev_add ?_ ?_ <;> walk_at "ev")
  | (refine ev_sub ?_ ?_ <;> walk_at "ev"))

local macro_rules | `(tactic| walk_at "blk") => `(tactic| (dsimp only; decide +kernel))
theorem join_all {P : Program} {w : World} {K : Frag} {mg : Str → Option Value} {base : Heap} (m : Mg mg) (hLI : ∃ t, mg "LEAST_ITEMS" = some (.int 2 t)) (hMI : ∃ t, mg "MOST_ITEMS" = some (.int 6 t))
    (dIi : DefAt K mg "is_integer" sIi)
    (dIb : DefAt K mg "is_between" sIb)
    (dDm : DefAt K mg "demand_many" sDm)
    (dIt : DefAt K mg "is_tree" sIt)
    (dDt : DefAt K mg "demand_tree" sDt)
    (dLo : DefAt K mg "leaves_of" sLo)
    (dLs : DefAt K mg "lots_of" sLs)
    (dLw : DefAt K mg "lots_within" sLw)
    (dPt : DefAt K mg "plain_tree" sPt)
    (dMp : DefAt K mg "made_plain" sMp)
    (dAt : DefAt K mg "all_trees" sAt)
    (dTw : DefAt K mg "trees_with" sTw)
    (dDk : DefAt K mg "_law_deck" sDk)
    (dDraw : DefAt K mg "_law_draw" sDraw)
    (dPick : DefAt K mg "_law_pick" sPick)
    (dTr : DefAt K mg "_law_tree" sTr)
    (dMe : DefAt K mg "_law_members" sMe)
    (dLl : DefAt K mg "_law_lots" sLl)
    (dLp : DefAt K mg "_law_plain" sLp)
    (dSa : DefAt K mg "_law_same" sSa)
    (dPu : DefAt K mg "_law_put" sPu)
    (dAl : DefAt K mg "_law_all" sAl)
    : Has P w K mg base 29 "_law_deck" (spDk K) ∧ ∀ (c : Ct) (z0 : SD), Run ⟨P, w, K, mg, base, nLaw, defScope sLaw, 29, fun _ => true, true⟩ c ((defBody sLaw).drop 1) ([z0, .deck] ++ List.replicate (nLaw.length - 2) .un) { nx := fun _ => False, rt := (· = .bool true) } := by
  have hIi : Has P w K mg base 1 "is_integer" (spD K pcIi) := dIi.has (ps := ["thing"]) (fun _ _ _ _ _ _ us hl => match us, hl with | [_], _ => rfl) fun f fd F => ok_Ii (k := 0) m F
  have hIb : Has P w K mg base 2 "is_between" (spD K pcIb) := dIb.has (ps := ["thing", "low", "high"]) (fun _ _ _ _ _ _ us hl => match us, hl with | [_, _, _], _ => rfl) fun f fd F => ok_Ib (k := 1) m F hIi
  have hDm : Has P w K mg base 3 "demand_many" (spD K pcDm) := dDm.has (ps := ["n"]) (fun _ _ _ _ _ _ us hl => match us, hl with | [_], _ => rfl) fun f fd F => ok_Dm (k := 2) m hLI hMI F hIb
  have hIt : Has P w K mg base 4 "is_tree" (spD K pcIt) := dIt.has (ps := ["n", "thing"]) (fun _ _ _ _ _ _ us hl => match us, hl with | [_, _], _ => rfl) fun f fd F => ok_It (k := 3) m F hDm (hIb.mono (by decide))
  have hDt : Has P w K mg base 5 "demand_tree" (spD K pcDt) := dDt.has (ps := ["n", "tree"]) (fun _ _ _ _ _ _ us hl => match us, hl with | [_, _], _ => rfl) fun f fd F => ok_Dt (k := 4) m F hIt
  have hLo : ∀ j, Has P w K mg base (0 + j + 1) "leaves_of" (spD K (pcLo j)) := rec_has (ps := ["tree"]) (pc := pcLo) (k0 := 0) dLo (fun _ _ _ _ _ _ us hl => match us, hl with | [_], _ => rfl) fun j f fd F rr => ok_Lo (k := 0 + j) m F j rr
  have hLw : ∀ j, Has P w K mg base (1 + j + 1) "lots_within" (spD K (pcLw j)) := rec_has (ps := ["tree"]) (pc := pcLw) (k0 := 1) dLw (fun _ _ _ _ _ _ us hl => match us, hl with | [_], _ => rfl) fun j f fd F rr => ok_Lw (k := 1 + j) m F j ((hLo j).mono (by omega)) rr
  have hMp : ∀ j, Has P w K mg base (1 + j + 1) "made_plain" (spD K (pcMp j)) := rec_has (ps := ["tree"]) (pc := pcMp) (k0 := 1) dMp (fun _ _ _ _ _ _ us hl => match us, hl with | [_], _ => rfl) fun j f fd F rr => ok_Mp (k := 1 + j) m F j ((hLo j).mono (by omega)) rr
  have hTw : ∀ j, Has P w K mg base (0 + j + 1) "trees_with" (spD K (pcTw j)) := rec_has (ps := ["tree", "item"]) (pc := pcTw) (k0 := 0) dTw (fun _ _ _ _ _ _ us hl => match us, hl with | [_, _], _ => rfl) fun j f fd F rr => ok_Tw (k := 0 + j) m F j rr
  have hLs : Has P w K mg base 8 "lots_of" (spD K pcLs) := dLs.has (ps := ["n", "tree"]) (fun _ _ _ _ _ _ us hl => match us, hl with | [_, _], _ => rfl) fun f fd F => ok_Ls (k := 7) m F (hDt.mono (by decide)) (hLw 5)
  have hPt : Has P w K mg base 8 "plain_tree" (spD K pcPt) := dPt.has (ps := ["n", "tree"]) (fun _ _ _ _ _ _ us hl => match us, hl with | [_, _], _ => rfl) fun f fd F => ok_Pt (k := 7) m F (hDt.mono (by decide)) (hMp 5)
  have hAt : Has P w K mg base 9 "all_trees" (spD K pcAt) := dAt.has (ps := ["n"]) (fun _ _ _ _ _ _ us hl => match us, hl with | [_], _ => rfl) fun f fd F => ok_At (k := 8) m F (hDm.mono (by decide)) ((hTw 5).mono (by decide)) hLs
  have hAt1 : Has1 P w K mg base 9 "all_trees" "n" (spD K pcAt) := dAt.has1 (p1 := "n") (fun _ _ _ _ _ _ _ => rfl) fun f fd F => ok_At (k := 8) m F (hDm.mono (by decide)) ((hTw 5).mono (by decide)) hLs
  have hDraw : Has P w K mg base 1 "_law_draw" (spD K pcDraw) := dDraw.has (ps := ["_law_deck_here", "_law_many"]) (fun _ _ _ _ _ _ us hl => match us, hl with | [_, _], _ => rfl) fun f fd F => ok_Draw (k := 0) m F
  have hPick : Has P w K mg base 2 "_law_pick" (spD K pcPick) := dPick.has (ps := ["_law_deck_here", "_law_some"]) (fun _ _ _ _ _ _ us hl => match us, hl with | [_, _], _ => rfl) fun f fd F => ok_Pick (k := 1) m F hDraw
  have hTr : ∀ j, Has P w K mg base (1 + j + 1) "_law_tree" (spD K (pcTr j)) := rec_has (ps := ["_law_deck_here", "_law_items"]) (pc := pcTr) (k0 := 1) dTr (fun _ _ _ _ _ _ us hl => match us, hl with | [_, _], _ => rfl) fun j f fd F rr => ok_Tr (k := 1 + j) m F (hDraw.mono (by omega)) j rr
  have hMe : ∀ j, Has P w K mg base (0 + j + 1) "_law_members" (spD K (pcMe j)) := rec_has (ps := ["_law_tree_here"]) (pc := pcMe) (k0 := 0) dMe (fun _ _ _ _ _ _ us hl => match us, hl with | [_], _ => rfl) fun j f fd F rr => ok_Me (k := 0 + j) m F j rr
  have hLl : ∀ j, Has P w K mg base (1 + j + 1) "_law_lots" (spD K (pcLl j)) := rec_has (ps := ["_law_tree_here"]) (pc := pcLl) (k0 := 1) dLl (fun _ _ _ _ _ _ us hl => match us, hl with | [_], _ => rfl) fun j f fd F rr => ok_Ll (k := 1 + j) m F j ((hMe j).mono (by omega)) rr
  have hLp : ∀ j, Has P w K mg base (1 + j + 1) "_law_plain" (spD K (pcMp j)) := rec_has (ps := ["_law_tree_here"]) (pc := pcMp) (k0 := 1) dLp (fun _ _ _ _ _ _ us hl => match us, hl with | [_], _ => rfl) fun j f fd F rr => ok_Lp (k := 1 + j) m F j ((hMe j).mono (by omega)) rr
  have hSa : HasG P w K mg base 1 "_law_same" (spD K pcSa) := dSa.hasG fun f fd F => ok_Sa (k := 0) m F
  have hPu : ∀ j, Has P w K mg base (0 + j + 1) "_law_put" (spD K (pcTw j)) := rec_has (ps := ["_law_tree_here", "_law_item"]) (pc := pcTw) (k0 := 0) dPu (fun _ _ _ _ _ _ us hl => match us, hl with | [_, _], _ => rfl) fun j f fd F rr => ok_Pu (k := 0 + j) m F j rr
  have hAl : Has P w K mg base 8 "_law_all" (spD K pcAl) := dAl.has (ps := ["_law_n"]) (fun _ _ _ _ _ _ us hl => match us, hl with | [_], _ => rfl) fun f fd F => ok_Al (k := 7) m F ((hPu 5).mono (by decide)) (hLl 5)
  have hDk : Has P w K mg base 1 "_law_deck" (spDk K) := dDk.has (ps := ["_law_script"]) (fun _ _ _ _ _ _ us hl => match us, hl with | [_], _ => rfl) fun f fd F => ok_Dk (k := 0) m F
  exact ⟨hDk.mono (by decide), fun c z0 => ok_rest (k := 29) m (hDraw.mono (by decide)) (hPick.mono (by decide)) (hAl.mono (by decide)) (hAt.mono (by decide)) (hAt1.mono (by decide)) (hSa.mono (by decide)) ((hTr 5).mono (by decide)) (hLs.mono (by decide)) (hPt.mono (by decide)) ((hLp 5).mono (by decide)) (hIt.mono (by decide)) c z0⟩
theorem join {P : Program} {w : World} {K : Frag} {mg : Str → Option Value} (m : Mg mg) (hLI : ∃ t, mg "LEAST_ITEMS" = some (.int 2 t)) (hMI : ∃ t, mg "MOST_ITEMS" = some (.int 6 t))
    (dIi : DefAt K mg "is_integer" sIi)
    (dIb : DefAt K mg "is_between" sIb)
    (dDm : DefAt K mg "demand_many" sDm)
    (dIt : DefAt K mg "is_tree" sIt)
    (dDt : DefAt K mg "demand_tree" sDt)
    (dLo : DefAt K mg "leaves_of" sLo)
    (dLs : DefAt K mg "lots_of" sLs)
    (dLw : DefAt K mg "lots_within" sLw)
    (dPt : DefAt K mg "plain_tree" sPt)
    (dMp : DefAt K mg "made_plain" sMp)
    (dAt : DefAt K mg "all_trees" sAt)
    (dTw : DefAt K mg "trees_with" sTw)
    (dDk : DefAt K mg "_law_deck" sDk)
    (dDraw : DefAt K mg "_law_draw" sDraw)
    (dPick : DefAt K mg "_law_pick" sPick)
    (dTr : DefAt K mg "_law_tree" sTr)
    (dMe : DefAt K mg "_law_members" sMe)
    (dLl : DefAt K mg "_law_lots" sLl)
    (dLp : DefAt K mg "_law_plain" sLp)
    (dSa : DefAt K mg "_law_same" sSa)
    (dPu : DefAt K mg "_law_put" sPu)
    (dAl : DefAt K mg "_law_all" sAl)
    (dLaw : DefAt K mg "law" sLaw) {fa : Addr} (hfa : mg "law" = some (.ref fa)) (a : Addr) (ns : List Int) (hl : ns.length ≤ 63) : TopRuns P w K mg fa a ns := by
  obtain ⟨fl, fd, e1, _, F⟩ := dLaw
  cases hfa.symm.trans e1
  exact ok_Law (k := 29) F ⟨rfl, by decide, by decide⟩ hl (fun base => (join_all (base := base) m hLI hMI dIi dIb dDm dIt dDt dLo dLs dLw dPt dMp dAt dTw dDk dDraw dPick dTr dMe dLl dLp dSa dPu dAl).1) (fun base => (join_all (base := base) m hLI hMI dIi dIb dDm dIt dDt dLo dLs dLw dPt dMp dAt dTw dDk dDraw dPick dTr dMe dLl dLp dSa dPu dAl).2)

end K8

open PySem PySem.W PyProof.Rows
set_option Elab.async false
set_option maxRecDepth 100000 in
set_option maxHeartbeats 0 in
theorem PySem.Challenge.cw_tripmeans_k60_all_trees_counted_and_list_holds : PySem.Challenge.rw_tripmeans_k60_all_trees_counted_and_list.Holds := by
  w_on; o_law; k_head; (case hw => w_witness2)
  k_fill
  refine Dl.walk_top (l := PySem.Challenge.rw_tripmeans_k60_all_trees_counted_and_list) rfl rfl (fun w h Y => PySem.W.kIn_of Y) ?F
  case F =>
    intro w mg fa h KX G hmg
    refine' K8.with_def (x := "is_integer") (st := K8.top 5) KX G ?a5 ?l5 ?c5 ?k5 ?r5; (case a5 => k_is); (case l5 => k_is); (case c5 => k_is); (case k5 => k_is)
    intro dIi
    refine' K8.with_def (x := "is_between") (st := K8.top 6) KX G ?a6 ?l6 ?c6 ?k6 ?r6; (case a6 => k_is); (case l6 => k_is); (case c6 => k_is); (case k6 => k_is)
    intro dIb
    refine' K8.with_def (x := "demand_many") (st := K8.top 10) KX G ?a10 ?l10 ?c10 ?k10 ?r10; (case a10 => k_is); (case l10 => k_is); (case c10 => k_is); (case k10 => k_is)
    intro dDm
    refine' K8.with_def (x := "is_tree") (st := K8.top 11) KX G ?a11 ?l11 ?c11 ?k11 ?r11; (case a11 => k_is); (case l11 => k_is); (case c11 => k_is); (case k11 => k_is)
    intro dIt
    refine' K8.with_def (x := "demand_tree") (st := K8.top 12) KX G ?a12 ?l12 ?c12 ?k12 ?r12; (case a12 => k_is); (case l12 => k_is); (case c12 => k_is); (case k12 => k_is)
    intro dDt
    refine' K8.with_def (x := "leaves_of") (st := K8.top 13) KX G ?a13 ?l13 ?c13 ?k13 ?r13; (case a13 => k_is); (case l13 => k_is); (case c13 => k_is); (case k13 => k_is)
    intro dLo
    refine' K8.with_def (x := "lots_of") (st := K8.top 14) KX G ?a14 ?l14 ?c14 ?k14 ?r14; (case a14 => k_is); (case l14 => k_is); (case c14 => k_is); (case k14 => k_is)
    intro dLs
    refine' K8.with_def (x := "lots_within") (st := K8.top 15) KX G ?a15 ?l15 ?c15 ?k15 ?r15; (case a15 => k_is); (case l15 => k_is); (case c15 => k_is); (case k15 => k_is)
    intro dLw
    refine' K8.with_def (x := "plain_tree") (st := K8.top 16) KX G ?a16 ?l16 ?c16 ?k16 ?r16; (case a16 => k_is); (case l16 => k_is); (case c16 => k_is); (case k16 => k_is)
    intro dPt
    refine' K8.with_def (x := "made_plain") (st := K8.top 17) KX G ?a17 ?l17 ?c17 ?k17 ?r17; (case a17 => k_is); (case l17 => k_is); (case c17 => k_is); (case k17 => k_is)
    intro dMp
    refine' K8.with_def (x := "all_trees") (st := K8.top 18) KX G ?a18 ?l18 ?c18 ?k18 ?r18; (case a18 => k_is); (case l18 => k_is); (case c18 => k_is); (case k18 => k_is)
    intro dAt
    refine' K8.with_def (x := "trees_with") (st := K8.top 19) KX G ?a19 ?l19 ?c19 ?k19 ?r19; (case a19 => k_is); (case l19 => k_is); (case c19 => k_is); (case k19 => k_is)
    intro dTw
    refine' K8.with_def (x := "_law_deck") (st := K8.top 21) KX G ?a21 ?l21 ?c21 ?k21 ?r21; (case a21 => k_is); (case l21 => k_is); (case c21 => k_is); (case k21 => k_is)
    intro dDk
    refine' K8.with_def (x := "_law_draw") (st := K8.top 22) KX G ?a22 ?l22 ?c22 ?k22 ?r22; (case a22 => k_is); (case l22 => k_is); (case c22 => k_is); (case k22 => k_is)
    intro dDraw
    refine' K8.with_def (x := "_law_pick") (st := K8.top 23) KX G ?a23 ?l23 ?c23 ?k23 ?r23; (case a23 => k_is); (case l23 => k_is); (case c23 => k_is); (case k23 => k_is)
    intro dPick
    refine' K8.with_def (x := "_law_tree") (st := K8.top 24) KX G ?a24 ?l24 ?c24 ?k24 ?r24; (case a24 => k_is); (case l24 => k_is); (case c24 => k_is); (case k24 => k_is)
    intro dTr
    refine' K8.with_def (x := "_law_members") (st := K8.top 25) KX G ?a25 ?l25 ?c25 ?k25 ?r25; (case a25 => k_is); (case l25 => k_is); (case c25 => k_is); (case k25 => k_is)
    intro dMe
    refine' K8.with_def (x := "_law_lots") (st := K8.top 26) KX G ?a26 ?l26 ?c26 ?k26 ?r26; (case a26 => k_is); (case l26 => k_is); (case c26 => k_is); (case k26 => k_is)
    intro dLl
    refine' K8.with_def (x := "_law_plain") (st := K8.top 27) KX G ?a27 ?l27 ?c27 ?k27 ?r27; (case a27 => k_is); (case l27 => k_is); (case c27 => k_is); (case k27 => k_is)
    intro dLp
    refine' K8.with_def (x := "_law_same") (st := K8.top 28) KX G ?a28 ?l28 ?c28 ?k28 ?r28; (case a28 => k_is); (case l28 => k_is); (case c28 => k_is); (case k28 => k_is)
    intro dSa
    refine' K8.with_def (x := "_law_put") (st := K8.top 29) KX G ?a29 ?l29 ?c29 ?k29 ?r29; (case a29 => k_is); (case l29 => k_is); (case c29 => k_is); (case k29 => k_is)
    intro dPu
    refine' K8.with_def (x := "_law_all") (st := K8.top 30) KX G ?a30 ?l30 ?c30 ?k30 ?r30; (case a30 => k_is); (case l30 => k_is); (case c30 => k_is); (case k30 => k_is)
    intro dAl
    refine' K8.with_def (x := "law") (st := K8.top 31) KX G ?a31 ?l31 ?c31 ?k31 ?r31; (case a31 => k_is); (case l31 => k_is); (case c31 => k_is); (case k31 => k_is)
    intro dLaw
    refine' K8.with_none (x := "len") KX G ?a_len ?r_len; (case a_len => k_is)
    intro z_len
    refine' K8.with_none (x := "range") KX G ?a_range ?r_range; (case a_range => k_is)
    intro z_range
    refine' K8.with_none (x := "enumerate") KX G ?a_enumerate ?r_enumerate; (case a_enumerate => k_is)
    intro z_enumerate
    refine' K8.with_none (x := "list") KX G ?a_list ?r_list; (case a_list => k_is)
    intro z_list
    refine' K8.with_none (x := "tuple") KX G ?a_tuple ?r_tuple; (case a_tuple => k_is)
    intro z_tuple
    refine' K8.with_none (x := "int") KX G ?a_int ?r_int; (case a_int => k_is)
    intro z_int
    refine' K8.with_none (x := "max") KX G ?a_max ?r_max; (case a_max => k_is)
    intro z_max
    refine' K8.with_none (x := "isinstance") KX G ?a_isinstance ?r_isinstance; (case a_isinstance => k_is)
    intro z_isinstance
    refine' K8.with_none (x := "bool") KX G ?a_bool ?r_bool; (case a_bool => k_is)
    intro z_bool
    refine' K8.with_none (x := "sorted") KX G ?a_sorted ?r_sorted; (case a_sorted => k_is)
    intro z_sorted
    refine' K8.with_none (x := "repr") KX G ?a_repr ?r_repr; (case a_repr => k_is)
    intro z_repr
    refine' K8.with_val (x := "LEAST_ITEMS") KX G ?a_LEAST_ITEMS ?r_LEAST_ITEMS; (case a_LEAST_ITEMS => k_is)
    intro z_LEAST_ITEMS
    refine' K8.with_val (x := "MOST_ITEMS") KX G ?a_MOST_ITEMS ?r_MOST_ITEMS; (case a_MOST_ITEMS => k_is)
    intro z_MOST_ITEMS
    exact fun a ns hl => K8.join (P := PySem.Challenge.rw_tripmeans_k60_all_trees_counted_and_list.prog) (w := w) ⟨z_len, z_range, z_enumerate, z_list, z_tuple, z_int, z_max, z_isinstance, z_bool, z_sorted, z_repr⟩ ⟨_, z_LEAST_ITEMS⟩ ⟨_, z_MOST_ITEMS⟩ dIi dIb dDm dIt dDt dLo dLs dLw dPt dMp dAt dTw dDk dDraw dPick dTr dMe dLl dLp dSa dPu dAl dLaw hmg a ns hl

