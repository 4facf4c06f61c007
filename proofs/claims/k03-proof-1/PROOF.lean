import PyProof.Rows.All
import Wide.All
import OpenK.AllK
import Wide.FinOn
import HandS.ForMost
import HandS.IsInst
import HandS.Wide
import HandS.Star
import HandS.Gcd
import HandS.Flow
import HandS.Style
import HandS.TupAny
import HandS.TupMul
import HandS.Zip
import HandS.SortKw
import KE.DataMinMax
import PyProof.ListMulRoad
import PyProof.FactsAll.tuple_2
import KE.KUnpackStar
import HandS.Small
import HandS.Conv
import HandS.RaiseMore
import PyProof.ReprLen
import PyProof.AutoSeq1
import KE.GoesMore
import PyProof.EnumMake
import KE.SortData
import HandS.Deep
import PySem.Challenge.RW_tripmeans_k03_whole_follows_by_corners_a
set_option Elab.async false
set_option linter.all false
/-! data above the heap: what a value stands for, what is known and what is owned -/
namespace Dl
open PySem L2

abbrev D := PyData
abbrev Frag := PySem.W.Frag
/-- no list or tuple of data is longer -/
def Lm : Nat := 100000
theorem Lm_le {n : Nat} (h : n ≤ Lm) : n ≤ sizeLine := Nat.le_trans h (by decide)
theorem Lm_lt {n : Nat} (h : n ≤ Lm) : n < sizeLine := Nat.lt_of_le_of_lt h (by decide)

/-- all that G knows H knows -/
def Ex (G H : Hp) : Prop := ∀ a o, G a = some o → H a = some o
theorem Ex.refl (H : Hp) : Ex H H := fun _ _ h => h
theorem Ex.trans {H H1 H2 : Hp} (a : Ex H H1) (b : Ex H1 H2) : Ex H H2 := fun x o h => b x o (a x o h)
theorem Ex.new {H : Hp} {p : Addr} {o : HO} (h : H p = none) : Ex H (upd H p o) := fun a u e => by
  rw [upd_ne (ne_of_none e h)]; exact e
theorem Ex.mut {H H' : Hp} {p : Addr} {o : HO} (e : Ex H H') (h : H p = none) : Ex H (upd H' p o) := fun a u ha => by
  rw [upd_ne (ne_of_none ha h)]; exact e a u ha
theorem Ex.both {G H : Hp} {p : Addr} {o : HO} (e : Ex G H) : Ex (upd G p o) (upd H p o) := fun a u ha => by
  by_cases h : a = p
  · subst h; rw [upd_same] at *; exact ha
  · rw [upd_ne h] at *; exact e a u ha
theorem Ex.put {G H : Hp} {p : Addr} {o : HO} (e : Ex G H) (h : H p = some o) : Ex (upd G p o) H := fun a u ha => by
  by_cases q : a = p
  · subst q; rw [upd_same] at ha; rw [h]; exact ha
  · rw [upd_ne q] at ha; exact e a u ha

mutual
/-- the value v stands for the data d -/
def Rp (K : Frag) (G : Hp) : D → V → Prop
  | .none, v => v = .non
  | .bool b, v => v = .bl b
  | .int i, v => v = .int i
  | .str x, v => v = .str x
  | .list ds, v => ∃ a xs, v = .ref a ∧ G a = some (.lst xs) ∧ ds.length ≤ Lm ∧ RpA K G ds xs
  | .tuple ds, v => ∃ a xs, v = .ref a ∧ SqT K G a xs ∧ ds.length ≤ Lm ∧ RpA K G ds xs
  | .dict _, _ => False
def RpA (K : Frag) (G : Hp) : List D → List V → Prop
  | [], vs => vs = []
  | d :: ds, vs => ∃ v ws, vs = v :: ws ∧ Rp K G d v ∧ RpA K G ds ws
end

theorem ex_rd {H H' : Hp} {a : Addr} {u : HO} (e : Ex H H') (h : Rd H a u) : Rd H' a u := by
  rcases h with h | ⟨o, h⟩
  · exact Or.inl (e a _ h)
  · exact Or.inr ⟨o, e a _ h⟩
theorem ex_t {K : Frag} {H H' : Hp} {a : Addr} {xs : List V} (e : Ex H H') (h : SqT K H a xs) : SqT K H' a xs := by
  rcases h with h | h
  · exact Or.inl (ex_rd e h)
  · exact Or.inr h

section
variable {K : Frag} {G G' H : Hp}
mutual
theorem Rp.mono (e : Ex G G') : ∀ (d : D) {v : V}, Rp K G d v → Rp K G' d v
  | .none, _, h => h
  | .bool _, _, h => h
  | .int _, _, h => h
  | .str _, _, h => h
  | .list ds, _, h => by
    unfold Rp at *; obtain ⟨a, xs, e1, h1, h2, h3⟩ := h
    exact ⟨a, xs, e1, e _ _ h1, h2, RpA.mono e ds h3⟩
  | .tuple ds, _, h => by
    unfold Rp at *; obtain ⟨a, xs, e1, h1, h2, h3⟩ := h
    exact ⟨a, xs, e1, ex_t e h1, h2, RpA.mono e ds h3⟩
  | .dict _, _, h => by unfold Rp at h; exact h.elim
theorem RpA.mono (e : Ex G G') : ∀ (ds : List D) {vs : List V}, RpA K G ds vs → RpA K G' ds vs
  | [], _, h => by unfold RpA at *; exact h
  | d :: ds, _, h => by
    unfold RpA at *; obtain ⟨v, ws, e1, h1, h2⟩ := h
    exact ⟨v, ws, e1, Rp.mono e d h1, RpA.mono e ds h2⟩
end

theorem RpA.nil : RpA K G [] [] := by unfold RpA; rfl
theorem RpA.cons {d : D} {ds : List D} {v : V} {vs : List V} (h : Rp K G d v) (t : RpA K G ds vs) : RpA K G (d :: ds) (v :: vs) := by
  unfold RpA; exact ⟨v, vs, rfl, h, t⟩
theorem RpA.inv {d : D} {ds : List D} {vs : List V} (h : RpA K G (d :: ds) vs) : ∃ v ws, vs = v :: ws ∧ Rp K G d v ∧ RpA K G ds ws := by
  unfold RpA at h; exact h
theorem RpA.length : ∀ {ds : List D} {vs : List V}, RpA K G ds vs → vs.length = ds.length
  | [], _, h => by unfold RpA at h; rw [h]; rfl
  | d :: ds, _, h => by
    obtain ⟨v, ws, rfl, _, h2⟩ := h.inv
    simp [RpA.length h2]
theorem RpA.append : ∀ {ds es : List D} {vs ws : List V}, RpA K G ds vs → RpA K G es ws → RpA K G (ds ++ es) (vs ++ ws)
  | [], _, _, _, h, h' => by unfold RpA at h; subst h; exact h'
  | d :: ds, _, _, _, h, h' => by
    obtain ⟨v, ws, rfl, h1, h2⟩ := h.inv
    exact RpA.cons h1 (RpA.append h2 h')
theorem RpA.get : ∀ {ds : List D} {vs : List V} {i : Nat} {d : D}, RpA K G ds vs → ds[i]? = some d → ∃ v, vs[i]? = some v ∧ Rp K G d v
  | [], _, _, _, _, e => by simp at e
  | d :: ds, _, 0, _, h, e => by
    obtain ⟨v, ws, rfl, h1, h2⟩ := h.inv
    simp at e; subst e; exact ⟨v, rfl, h1⟩
  | d :: ds, _, i + 1, _, h, e => by
    obtain ⟨v, ws, rfl, h1, h2⟩ := h.inv
    obtain ⟨u, e1, e2⟩ := RpA.get (i := i) h2 (by simpa using e)
    exact ⟨u, by simpa using e1, e2⟩
theorem RpA.get' : ∀ {ds : List D} {vs : List V} {i : Nat} {v : V}, RpA K G ds vs → vs[i]? = some v → ∃ d, ds[i]? = some d ∧ Rp K G d v := by
  intro ds vs i v h e
  have hl := h.length
  have hi : i < vs.length := (List.getElem?_eq_some_iff.mp e).1
  have hd : ds[i]? = some ds[i] := by simp [show i < ds.length by omega]
  obtain ⟨u, e1, e2⟩ := h.get hd
  rw [e] at e1; cases e1
  exact ⟨_, hd, e2⟩
theorem RpA.take : ∀ (n : Nat) {ds : List D} {vs : List V}, RpA K G ds vs → RpA K G (ds.take n) (vs.take n)
  | 0, _, _, _ => by simp; exact RpA.nil
  | n + 1, [], _, h => by unfold RpA at h; subst h; simp; exact RpA.nil
  | n + 1, d :: ds, _, h => by
    obtain ⟨v, ws, rfl, h1, h2⟩ := h.inv
    simp; exact RpA.cons h1 (RpA.take n h2)
theorem RpA.drop : ∀ (n : Nat) {ds : List D} {vs : List V}, RpA K G ds vs → RpA K G (ds.drop n) (vs.drop n)
  | 0, _, _, h => by simpa using h
  | n + 1, [], _, h => by unfold RpA at h; subst h; simp; exact RpA.nil
  | n + 1, d :: ds, _, h => by
    obtain ⟨v, ws, rfl, h1, h2⟩ := h.inv
    simpa using RpA.drop n h2
theorem RpA.set : ∀ (n : Nat) {ds : List D} {vs : List V} {d : D} {v : V}, RpA K G ds vs → Rp K G d v → RpA K G (ds.set n d) (vs.set n v)
  | _, [], _, _, _, h, _ => by unfold RpA at h; subst h; simp; exact RpA.nil
  | 0, e :: ds, _, _, _, h, r => by
    obtain ⟨v, ws, rfl, h1, h2⟩ := h.inv
    simp; exact RpA.cons r h2
  | n + 1, e :: ds, _, _, _, h, r => by
    obtain ⟨v, ws, rfl, h1, h2⟩ := h.inv
    simp; exact RpA.cons h1 (RpA.set n h2 r)
theorem RpA.ints : ∀ {ns : List Int} {vs : List V}, RpA K G (ns.map PyData.int) vs ↔ vs = ns.map V.int
  | [], vs => by unfold RpA; simp
  | n :: ns, vs => by
    constructor
    · intro h
      obtain ⟨v, ws, rfl, h1, h2⟩ := h.inv
      unfold Rp at h1
      rw [h1, RpA.ints.mp h2]; rfl
    · rintro rfl
      exact RpA.cons (by unfold Rp; rfl) (RpA.ints.mpr rfl)
theorem RpA.bools : ∀ {ns : List Bool} {vs : List V}, RpA K G (ns.map PyData.bool) vs ↔ vs = ns.map V.bl
  | [], vs => by unfold RpA; simp
  | n :: ns, vs => by
    constructor
    · intro h
      obtain ⟨v, ws, rfl, h1, h2⟩ := h.inv
      unfold Rp at h1
      rw [h1, RpA.bools.mp h2]; rfl
    · rintro rfl
      exact RpA.cons (by unfold Rp; rfl) (RpA.bools.mpr rfl)

theorem Rp.int {i : Int} : Rp K G (.int i) (.int i) := by unfold Rp; rfl
theorem Rp.bl {i : Bool} : Rp K G (.bool i) (.bl i) := by unfold Rp; rfl
theorem Rp.str {i : Str} : Rp K G (.str i) (.str i) := by unfold Rp; rfl
theorem Rp.non : Rp K G .none .non := by unfold Rp; rfl
theorem Rp.lst {a : Addr} {xs : List V} {ds : List D} (h : G a = some (.lst xs)) (hl : ds.length ≤ Lm) (r : RpA K G ds xs) : Rp K G (.list ds) (.ref a) := by
  unfold Rp; exact ⟨a, xs, rfl, h, hl, r⟩
theorem Rp.tup {a : Addr} {xs : List V} {ds : List D} (h : SqT K G a xs) (hl : ds.length ≤ Lm) (r : RpA K G ds xs) : Rp K G (.tuple ds) (.ref a) := by
  unfold Rp; exact ⟨a, xs, rfl, h, hl, r⟩
theorem Rp.int' {i : Int} {v : V} (h : Rp K G (.int i) v) : v = .int i := by unfold Rp at h; exact h
theorem Rp.bl' {i : Bool} {v : V} (h : Rp K G (.bool i) v) : v = .bl i := by unfold Rp at h; exact h
theorem Rp.str' {i : Str} {v : V} (h : Rp K G (.str i) v) : v = .str i := by unfold Rp at h; exact h
theorem Rp.non' {v : V} (h : Rp K G .none v) : v = .non := by unfold Rp at h; exact h
theorem Rp.lst' {ds : List D} {v : V} (h : Rp K G (.list ds) v) : ∃ a xs, v = .ref a ∧ G a = some (.lst xs) ∧ ds.length ≤ Lm ∧ RpA K G ds xs := by unfold Rp at h; exact h
theorem Rp.tup' {ds : List D} {v : V} (h : Rp K G (.tuple ds) v) : ∃ a xs, v = .ref a ∧ SqT K G a xs ∧ ds.length ≤ Lm ∧ RpA K G ds xs := by unfold Rp at h; exact h

mutual
/-- the layer's own word for data -/
theorem Rp.dp (e : Ex G H) : ∀ (d : D) {v : V}, Rp K G d v → Dp K H v d
  | .none, _, h => by rw [h.non']; exact .non
  | .bool _, _, h => by rw [h.bl']; exact .bl _
  | .int _, _, h => by rw [h.int']; exact .int _
  | .str _, _, h => by rw [h.str']; exact .str _
  | .list ds, _, h => by
    obtain ⟨a, xs, rfl, h1, _, h3⟩ := h.lst'
    exact .lst (SqL.of (e _ _ h1)) (RpA.dp e ds h3)
  | .tuple ds, _, h => by
    obtain ⟨a, xs, rfl, h1, _, h3⟩ := h.tup'
    exact .tup (ex_t e h1) (RpA.dp e ds h3)
  | .dict _, _, h => by unfold Rp at h; exact h.elim
theorem RpA.dp (e : Ex G H) : ∀ (ds : List D) {vs : List V}, RpA K G ds vs → DpAll K H vs ds
  | [], _, h => by unfold RpA at h; rw [h]; exact .nil
  | d :: ds, _, h => by
    obtain ⟨v, ws, rfl, h1, h2⟩ := h.inv
    exact .cons (Rp.dp e d h1) (RpA.dp e ds h2)
end
end

/-! ### the deck: a dict and its list, owned -/
structure Zone where
  deck : Option (Addr × Addr) := none
  given : Option Addr := none
def Zone.no : Zone := {}
def deckO (c : Addr) (mixed draws : Int) : HO := .dK [(Sum.inr ("cells" : Str), .ref c), (Sum.inr ("mixed" : Str), .int mixed), (Sum.inr ("draws" : Str), .int draws)]
def DeckIn (Z : Zone) (G H : Hp) : Prop := match Z.deck with
  | none => True
  | some (dk, c) => G dk = none ∧ G c = none ∧ dk ≠ c ∧ ∃ (cells : List Int) (mixed draws : Int), cells.length ≤ 64 ∧ 0 ≤ mixed ∧ mixed < 2147483587 ∧ 0 ≤ draws ∧
      H dk = some (deckO c mixed draws) ∧ H c = some (.lst (cells.map V.int))
def inDeck (Z : Zone) (a : Addr) : Prop := match Z.deck with
  | none => False
  | some (dk, c) => a = dk ∨ a = c
def inZ (Z : Zone) (a : Addr) : Prop := inDeck Z a ∨ Z.given = some a

/-! ### what a slot holds -/
inductive SD where
  | un | dat (d : D) | own (ds : List D) | deck | raw (v : V)

def SlotRp (K : Frag) (Z : Zone) (H0 G H : Hp) : Option V → SD → Prop
  | _, .un => True
  | o, .dat d => ∃ v, o = some v ∧ Rp K G d v
  | o, .own ds => ∃ p xs, o = some (.ref p) ∧ (H0 p = none ∨ Z.given = some p) ∧ G p = none ∧ ¬ inDeck Z p ∧ ds.length ≤ Lm ∧ H p = some (.lst xs) ∧ RpA K G ds xs
  | o, .deck => ∃ dk c, Z.deck = some (dk, c) ∧ o = some (.ref dk)
  | o, .raw v => o = some v
def SD.isOwn : SD → Bool
  | .own _ => true
  | _ => false

/-- between a def's beginning (G0 known, H0 there) and here -/
structure State (K : Frag) (Z : Zone) (G0 H0 G H : Hp) (σ : St) (ds : List SD) : Prop where
  ex : Ex G H
  exg : Ex G0 G
  nw : ∀ p, G p ≠ none → G0 p ≠ none ∨ H0 p = none ∨ Z.given = some p
  exm : ∀ a o, H0 a = some o → ¬ inZ Z a → H a = some o
  deck : DeckIn Z G H
  len : σ.length = ds.length
  giv : ∀ p, Z.given = some p → H p ≠ none
  slots : ∀ (i : Nat) (sd : SD), ds[i]? = some sd → SlotRp K Z H0 G H (σ[i]?).join sd
  dist : ∀ (i j : Nat) (ds1 ds2 : List D) (p : Addr), i ≠ j → ds[i]? = some (.own ds1) → ds[j]? = some (.own ds2) → σ[i]? = some (some (.ref p)) → σ[j]? ≠ some (some (.ref p))

theorem SlotRp.grow {K : Frag} {Z : Zone} {H0 G H G' H' : Hp} {o : Option V} {sd : SD} (h : SlotRp K Z H0 G H o sd)
    (e : Ex G G') (hp : ∀ p, H p ≠ none → G p = none → G' p = none) (eh : ∀ p xs, sd.isOwn = true → o = some (.ref p) → H p = some (.lst xs) → H' p = some (.lst xs)) :
    SlotRp K Z H0 G' H' o sd := by
  cases sd with
  | un => trivial
  | dat d => obtain ⟨v, e1, r⟩ := h; exact ⟨v, e1, r.mono e⟩
  | own ds =>
    obtain ⟨p, xs, e1, h0, h1, h2, h3, h4, h5⟩ := h
    exact ⟨p, xs, e1, h0, hp p (by rw [h4]; exact fun z => nomatch z) h1, h2, h3, eh p xs rfl e1 h4, h5.mono e⟩
  | deck => exact h
  | raw v => exact h

/-- what is known grows by what is new, nothing but the deck is changed -/
structure Gr (Z : Zone) (G H G' H' : Hp) : Prop where
  g : Ex G G'
  h : ∀ a o, H a = some o → ¬ inDeck Z a → H' a = some o
  nw : ∀ p, G' p ≠ none → G p ≠ none ∨ H p = none
  dom : ∀ p, H p ≠ none → H' p ≠ none
theorem Gr.refl {Z : Zone} {G H : Hp} : Gr Z G H G H := ⟨Ex.refl G, fun _ _ h _ => h, fun _ h => .inl h, fun _ h => h⟩
theorem Gr.trans {Z : Zone} {G H G1 H1 G2 H2 : Hp} (a : Gr Z G H G1 H1) (b : Gr Z G1 H1 G2 H2) : Gr Z G H G2 H2 :=
  ⟨a.g.trans b.g, fun x o h z => b.h x o (a.h x o h z) z, fun p h => by
    rcases b.nw p h with h1 | h1
    · exact a.nw p h1
    · right
      cases e : H p with
      | none => rfl
      | some o => exact absurd h1 (a.dom p (by rw [e]; exact fun z => nomatch z)), fun p h => b.dom p (a.dom p h)⟩

section
variable {K : Frag} {Z : Zone} {G0 H0 G H G' H' : Hp} {σ : St} {ds : List SD}

/-- all that was there stays, what is newly known is new -/
theorem State.grow (s : State K Z G0 H0 G H σ ds) (eg : Ex G G') (e' : Ex G' H') (eh : Ex H H') (nw : ∀ p, G' p ≠ none → G p ≠ none ∨ H p = none) :
    State K Z G0 H0 G' H' σ ds := by
  have hp : ∀ p, H p ≠ none → G p = none → G' p = none := by
    intro p h1 h2
    cases h : G' p with
    | none => rfl
    | some o => rcases nw p (by rw [h]; exact fun z => nomatch z) with h3 | h3
                · exact absurd h2 h3
                · exact absurd h3 h1
  have nn : ∀ {p : Addr} {o : HO}, H p = some o → H p ≠ none := fun h => by rw [h]; exact fun z => nomatch z
  have keepNe : ∀ q, H q ≠ none → H' q ≠ none := by
    intro q h1 h2
    cases h : H q with
    | none => exact h1 h
    | some o => rw [eh q o h] at h2; cases h2
  refine ⟨e', s.exg.trans eg, ?_, fun a o h1 h2 => eh a o (s.exm a o h1 h2), ?_, s.len, fun p h => keepNe p (s.giv p h), fun i sd h => (s.slots i sd h).grow eg hp (fun p xs _ _ h => eh _ _ h), s.dist⟩
  · intro p h
    rcases nw p h with h1 | h1
    · exact s.nw p h1
    · right; left
      cases h2 : H0 p with
      | none => rfl
      | some o =>
        by_cases hz : inZ Z p
        · exfalso
          rcases hz with hz | hz
          · have hd := s.deck
            unfold DeckIn at hd
            unfold inDeck at hz
            split at hz
            · exact hz
            · rename_i dk c hq
              rw [hq] at hd
              obtain ⟨_, _, _, cells, mixed, draws, _, _, _, _, k1, k2⟩ := hd
              rcases hz with rfl | rfl
              · exact nn k1 h1
              · exact nn k2 h1
          · exact s.giv p hz h1
        · exact absurd h1 (nn (s.exm p o h2 hz))
  · have hd := s.deck
    unfold DeckIn at *
    split
    · trivial
    · rename_i dk c hq
      rw [hq] at hd
      obtain ⟨d1, d2, d3, cells, mixed, draws, b1, b2, b3, b4, k1, k2⟩ := hd
      exact ⟨hp _ (nn k1) d1, hp _ (nn k2) d2, d3, cells, mixed, draws, b1, b2, b3, b4, eh _ _ k1, eh _ _ k2⟩

/-- a new object that stands for data -/
theorem State.laid (s : State K Z G0 H0 G H σ ds) {p : Addr} {o : HO} (hp : H p = none) : State K Z G0 H0 (upd G p o) (upd H p o) σ ds ∧ Gr Z G H (upd G p o) (upd H p o) := by
  have hg : G p = none := by
    cases h : G p with
    | none => rfl
    | some u => rw [s.ex p u h] at hp; cases hp
  refine ⟨s.grow (Ex.new hg) s.ex.both (Ex.new hp) (fun q hq => ?_), ⟨Ex.new hg, fun a u h _ => Ex.new hp a u h, ?nw, fun q h z => ?_⟩⟩
  case nw =>
    intro q hq
    by_cases h : q = p
    · right; rw [h]; exact hp
    · left; rw [upd_ne h] at hq; exact hq
  · by_cases h : q = p
    · right; rw [h]; exact hp
    · left; rw [upd_ne h] at hq; exact hq
  · by_cases e : q = p
    · rw [e, upd_same] at z; cases z
    · rw [upd_ne e] at z; exact h z

/-- a new object that is let go, or held raw -/
theorem State.aside (s : State K Z G0 H0 G H σ ds) {p : Addr} {o : HO} (hp : H p = none) : State K Z G0 H0 G (upd H p o) σ ds := by
  have hg : G p = none := by
    cases h : G p with
    | none => rfl
    | some u => rw [s.ex p u h] at hp; cases hp
  exact s.grow (Ex.refl G) (s.ex.mut hg) (Ex.new hp) (fun q hq => .inl hq)

/-- a slot is set to something that is not owned -/
theorem State.set (s : State K Z G0 H0 G H σ ds) {i : Nat} {v : V} {sd : SD} (hs : sd.isOwn = false) (r : SlotRp K Z H0 G H (some v) sd) :
    State K Z G0 H0 G H (σ.set i (some v)) (ds.set i sd) := by
  refine ⟨s.ex, s.exg, s.nw, s.exm, s.deck, by simp [s.len], s.giv, fun j sd' h => ?_, fun j k d1 d2 p hjk h1 h2 h3 => ?_⟩
  · by_cases e : j = i
    · subst e
      have hl : j < ds.length := by
        rcases Nat.lt_or_ge j ds.length with h0 | h0
        · exact h0
        · rw [List.getElem?_eq_none (by simp; exact h0)] at h; cases h
      rw [List.getElem?_set_self hl] at h; cases h
      rw [List.getElem?_set_self (by rw [s.len]; exact hl)]; exact r
    · rw [List.getElem?_set_ne (Ne.symm e)] at *; exact s.slots j sd' h
  · have g : ∀ {j : Nat} {d1 : List D}, (ds.set i sd)[j]? = some (.own d1) → j ≠ i ∧ ds[j]? = some (.own d1) := by
      intro j d1 h
      by_cases e : j = i
      · subst e
        exfalso
        rcases Nat.lt_or_ge j ds.length with h0 | h0
        · rw [List.getElem?_set_self h0] at h; cases h; cases hs
        · rw [List.getElem?_eq_none (by simp; exact h0)] at h; cases h
      · rw [List.getElem?_set_ne (Ne.symm e)] at h; exact ⟨e, h⟩
    have a := g h1; have b := g h2
    rw [List.getElem?_set_ne (Ne.symm a.1)] at h3
    rw [List.getElem?_set_ne (Ne.symm b.1)]
    exact s.dist j k d1 d2 p hjk a.2 b.2 h3

/-- more slots forgotten -/
theorem State.forget (s : State K Z G0 H0 G H σ ds) {i : Nat} : State K Z G0 H0 G H σ (ds.set i .un) := by
  refine ⟨s.ex, s.exg, s.nw, s.exm, s.deck, by simp [s.len], s.giv, fun j sd' h => ?_, fun j k d1 d2 p hjk h1 h2 h3 => ?_⟩
  · by_cases e : j = i
    · subst e
      rcases Nat.lt_or_ge j ds.length with h0 | h0
      · rw [List.getElem?_set_self h0] at h; cases h; trivial
      · rw [List.getElem?_eq_none (by simp; exact h0)] at h; cases h
    · rw [List.getElem?_set_ne (Ne.symm e)] at h; exact s.slots j sd' h
  · have g : ∀ {j : Nat} {d1 : List D}, (ds.set i .un)[j]? = some (.own d1) → ds[j]? = some (.own d1) := by
      intro j d1 h
      by_cases e : j = i
      · subst e
        rcases Nat.lt_or_ge j ds.length with h0 | h0
        · rw [List.getElem?_set_self h0] at h; cases h
        · rw [List.getElem?_eq_none (by simp; exact h0)] at h; cases h
      · rw [List.getElem?_set_ne (Ne.symm e)] at h; exact h
    exact s.dist j k d1 d2 p hjk (g h1) (g h2) h3

/-- a deck stands where it stands -/
theorem DeckIn.ne {Z : Zone} {G H : Hp} (h : DeckIn Z G H) {a : Addr} (z : inDeck Z a) : H a ≠ none ∧ G a = none := by
  unfold DeckIn at h; unfold inDeck at z
  split at z
  · exact z.elim
  · rename_i dk c hq
    rw [hq] at h
    obtain ⟨d1, d2, _, cells, mixed, draws, _, _, _, _, k1, k2⟩ := h
    rcases z with rfl | rfl
    · exact ⟨by rw [k1]; exact (fun z => by cases z), d1⟩
    · exact ⟨by rw [k2]; exact (fun z => by cases z), d2⟩

/-- the slots as they stood, over what has grown since -/
theorem State.regrow {σ2 : St} {ds2 : List SD} (s : State K Z G0 H0 G H σ ds) (t : State K Z G0 H0 G' H' σ2 ds2) (gr : Gr Z G H G' H') : State K Z G0 H0 G' H' σ ds := by
  refine ⟨t.ex, t.exg, t.nw, t.exm, t.deck, s.len, t.giv, fun i sd h => ?_, s.dist⟩
  have q := s.slots i sd h
  cases sd with
  | un => trivial
  | dat d => obtain ⟨v, e1, r⟩ := q; exact ⟨v, e1, r.mono gr.g⟩
  | own l =>
    obtain ⟨p, xs, e1, h0, h1, h2, h3, h4, h5⟩ := q
    refine ⟨p, xs, e1, h0, ?_, h2, h3, gr.h _ _ h4 h2, h5.mono gr.g⟩
    cases e : G' p with
    | none => rfl
    | some o =>
      rcases gr.nw p (by rw [e]; exact fun z => nomatch z) with z | z
      · exact absurd h1 z
      · rw [h4] at z; cases z
  | deck => exact q
  | raw v => exact q

/-- behind a call: what the callee did is known by its own state -/
theorem State.gr {Z1 : Zone} (t : State K Z1 G H G' H' [] []) (hg : Z1.given = none) (hz : Z1.deck = none ∨ Z1.deck = Z.deck) (hd : DeckIn Z G H) : Gr Z G H G' H' := by
  have hin : ∀ a, inZ Z1 a → inDeck Z a := by
    intro a h
    rcases h with h | h
    · unfold inDeck at *
      rcases hz with z | z
      · rw [z] at h; exact h.elim
      · rw [z] at h; exact h
    · rw [hg] at h; cases h
  refine ⟨t.exg, fun a o h z => t.exm a o h fun q => z (hin a q), fun p h => by
      rcases t.nw p h with h1 | h1 | h1
      · exact .inl h1
      · exact .inr h1
      · rw [hg] at h1; exact absurd h1 (by simp), fun p h z => ?_⟩
  by_cases q : inZ Z1 p
  · rcases q with q | q
    · exact (t.deck.ne q).1 z
    · exact t.giv p q z
  · cases e : H p with
    | none => exact h e
    | some o => rw [t.exm p o e q] at z; cases z
theorem State.after {Z1 : Zone} (s : State K Z G0 H0 G H σ ds) (t : State K Z1 G H G' H' [] []) (hg : Z1.given = none) (hz : Z1.deck = none ∨ Z1.deck = Z.deck) : State K Z G0 H0 G' H' σ ds ∧ Gr Z G H G' H' := by
  have gr : Gr Z G H G' H' := t.gr hg hz s.deck
  have gp : ∀ p, H p ≠ none → G p = none → G' p = none := by
    intro p h1 h2
    cases e : G' p with
    | none => rfl
    | some o =>
      rcases gr.nw p (by rw [e]; exact fun z => nomatch z) with z | z
      · exact absurd h2 z
      · exact absurd z h1
  have deck : DeckIn Z G' H' := by
    rcases hz with z | z
    · have hd := s.deck
      unfold DeckIn at *
      split
      · trivial
      · rename_i dk c hq
        rw [hq] at hd
        obtain ⟨d1, d2, d3, cells, mixed, draws, b1, b2, b3, b4, k1, k2⟩ := hd
        have keep : ∀ a o, H a = some o → H' a = some o := fun a o h => t.exm a o h (by
          rintro (q | q)
          · unfold inDeck at q; rw [z] at q; exact q
          · rw [hg] at q; cases q)
        exact ⟨gp _ (by rw [k1]; exact fun z => nomatch z) d1, gp _ (by rw [k2]; exact fun z => nomatch z) d2, d3, cells, mixed, draws, b1, b2, b3, b4, keep _ _ k1, keep _ _ k2⟩
    · have hd := t.deck
      unfold DeckIn at *
      rw [z] at hd; exact hd
  have st : State K Z G0 H0 G' H' [] [] := by
    refine ⟨t.ex, s.exg.trans t.exg, fun p h => ?_, fun a o h1 h2 => gr.h a o (s.exm a o h1 h2) (fun q => h2 (.inl q)), deck, rfl, fun p h => gr.dom p (s.giv p h), fun i sd h => by simp at h, fun i j d1 d2 p _ h => by simp at h⟩
    rcases gr.nw p h with h1 | h1
    · exact s.nw p h1
    · right; left
      cases e : H0 p with
      | none => rfl
      | some o =>
        by_cases hz : inZ Z p
        · rcases hz with hz | hz
          · exact absurd h1 (s.deck.ne hz).1
          · exact absurd h1 (s.giv p hz)
        · rw [s.exm p o e hz] at h1; cases h1
  exact ⟨s.regrow st gr, gr⟩
/-- the slots let go -/
theorem State.drop (s : State K Z G0 H0 G H σ ds) : State K Z G0 H0 G H [] [] :=
  ⟨s.ex, s.exg, s.nw, s.exm, s.deck, rfl, s.giv, fun i sd h => by simp at h, fun i j d1 d2 p _ h => by simp at h⟩

/-- no owned slot is at p -/
def NoOwn (σ : St) (ds : List SD) (p : Addr) : Prop := ∀ (i : Nat) (l : List D), ds[i]? = some (.own l) → σ[i]? ≠ some (some (.ref p))
theorem State.noOwn (s : State K Z G0 H0 G H σ ds) {p : Addr} (h : H p = none) : NoOwn σ ds p := by
  intro i l hi e
  obtain ⟨q, xs, e1, _, _, _, _, h4, _⟩ := s.slots i _ hi
  rw [e] at e1
  simp only [Option.join_some, Option.some.injEq, V.ref.injEq] at e1
  subst e1; rw [h] at h4; cases h4
/-- an object that nobody knows is changed -/
theorem State.poke (s : State K Z G0 H0 G H σ ds) {p : Addr} {o : HO} (hg : G p = none) (hd : ¬ inDeck Z p) (h0 : H0 p = none) (no : NoOwn σ ds p) : State K Z G0 H0 G (upd H p o) σ ds := by
  refine ⟨s.ex.mut hg, s.exg, s.nw, fun a u h1 h2 => ?_, ?_, s.len, fun q hq z => ?_, fun i sd h => ?_, s.dist⟩
  · rw [upd_ne (ne_of_none h1 h0)]; exact s.exm a u h1 h2
  · have hk := s.deck
    unfold DeckIn at *
    unfold inDeck at hd
    split
    · trivial
    · rename_i dk c hq
      rw [hq] at hk hd
      obtain ⟨d1, d2, d3, cells, mixed, draws, b1, b2, b3, b4, k1, k2⟩ := hk
      have n1 : dk ≠ p := fun e => hd (.inl e.symm)
      have n2 : c ≠ p := fun e => hd (.inr e.symm)
      exact ⟨d1, d2, d3, cells, mixed, draws, b1, b2, b3, b4, by rw [upd_ne n1]; exact k1, by rw [upd_ne n2]; exact k2⟩
  · by_cases e : q = p
    · rw [e, upd_same] at z; cases z
    · rw [upd_ne e] at z; exact s.giv q hq z
  · have q := s.slots i sd h
    cases sd with
    | un => trivial
    | dat d => exact q
    | own l =>
      obtain ⟨r, xs, e1, h1, h2, h3, h4, h5, h6⟩ := q
      refine ⟨r, xs, e1, h1, h2, h3, h4, ?_, h6⟩
      have : r ≠ p := by
        intro e; subst e
        refine no i l h ?_
        cases z : σ[i]? with
        | none => rw [z] at e1; cases e1
        | some o => rw [z] at e1; simp at e1; rw [e1]
      rw [upd_ne this]; exact h5
    | deck => exact q
    | raw v => exact q
/-- an object of one's own becomes known -/
theorem State.know (s : State K Z G0 H0 G H σ ds) {p : Addr} {o : HO} (hh : H p = some o) (hg : G p = none) (hd : ¬ inDeck Z p) (h0 : H0 p = none ∨ Z.given = some p) (no : NoOwn σ ds p) : State K Z G0 H0 (upd G p o) H σ ds := by
  refine ⟨s.ex.put hh, s.exg.trans (Ex.new hg), fun q h => ?_, s.exm, ?_, s.len, s.giv, fun i sd h => ?_, s.dist⟩
  · by_cases e : q = p
    · right; rw [e]; exact h0
    · rw [upd_ne e] at h; exact s.nw q h
  · have hk := s.deck
    unfold DeckIn at *
    unfold inDeck at hd
    split
    · trivial
    · rename_i dk c hq
      rw [hq] at hk hd
      obtain ⟨d1, d2, d3, cells, mixed, draws, b1, b2, b3, b4, k1, k2⟩ := hk
      have n1 : dk ≠ p := fun e => hd (.inl e.symm)
      have n2 : c ≠ p := fun e => hd (.inr e.symm)
      exact ⟨by rw [upd_ne n1]; exact d1, by rw [upd_ne n2]; exact d2, d3, cells, mixed, draws, b1, b2, b3, b4, k1, k2⟩
  · have q := s.slots i sd h
    cases sd with
    | un => trivial
    | dat d => obtain ⟨v, e1, r⟩ := q; exact ⟨v, e1, r.mono (Ex.new hg)⟩
    | own l =>
      obtain ⟨r, xs, e1, h1, h2, h3, h4, h5, h6⟩ := q
      have : r ≠ p := by
        intro e; subst e
        refine no i l h ?_
        cases z : σ[i]? with
        | none => rw [z] at e1; cases e1
        | some o => rw [z] at e1; simp at e1; rw [e1]
      exact ⟨r, xs, e1, h1, by rw [upd_ne this]; exact h2, h3, h4, h5, h6.mono (Ex.new hg)⟩
    | deck => exact q
    | raw v => exact q
end
end Dl


set_option Elab.async false
set_option linter.all false
namespace Dl
open PySem L2

/-- what a def's body, or a comprehension's block in it, stands in -/
structure Inf where
  prog : Program
  w : World
  K : Frag
  mg : Str → Option Value
  base : Heap
  N : List Str
  sc : Scope
  k : Nat
  fnc : Str → Bool := fun _ => true
  gd : Bool := false
structure Fits (I : Inf) (X : Cx) : Prop where
  prog : X.prog = I.prog
  w : X.w = I.w
  K : X.K = I.K
  mg : X.mg = I.mg
  base : X.base = I.base
  N : X.N = I.N
  sc : X.env.scope = I.sc
  calm : X.calm = true
  room : Room I.k X.A
  xe : X.xe = fun _ _ => False
  fn : ∀ x, I.fnc x = true → X.fn x = true
  nd : I.N.Nodup
  kind : I.sc.kind = .function
  gd : I.gd = true → X.A.guards = some []

/-- a def's zone, and what was known and there at its beginning -/
structure Ct where
  Z : Zone
  G0 : Hp
  H0 : Hp

abbrev S (I : Inf) (c : Ct) (G H : Hp) (σ : St) (ds : List SD) : Prop := State I.K c.Z c.G0 c.H0 G H σ ds

/-! ### the readings by what they mean -/
def wE (X : Cx) (e : Expr) : TE := fun σ H Q => ∀ (pins : List (Addr × Obj)) (s : Shared), Inv X pins σ H s → wpAny (model X.prog X.w) X.A (eval e X.env) (EP X pins σ Q) X.xe s
def wT (X : Cx) (e : Expr) : TT := fun σ H Q => ∀ (pins : List (Addr × Obj)) (s : Shared), Inv X pins σ H s → wpAny (model X.prog X.w) X.A (isTrue e X.env (eval e X.env)) (TP X pins σ Q) X.xe s
def wA (X : Cx) (es : List Expr) : TA := fun σ H Q => ∀ (pos : Pos) (pins : List (Addr × Obj)) (s : Shared), Inv X pins σ H s → wpAny (model X.prog X.w) X.A (spliced (backTo pos (starEach es X.env))) (AP X pins σ Q) X.xe s
def wS (X : Cx) (st : Stmt) : TS := fun E σ H => ∀ (pins : List (Addr × Obj)) (s : Shared), Inv X pins σ H s → wpAny (model X.prog X.w) X.A (exec st X.env) (SP X pins E) X.xe s
def wSs (X : Cx) (st : List Stmt) : TS := fun E σ H => ∀ (pins : List (Addr × Obj)) (s : Shared), Inv X pins σ H s → wpAny (model X.prog X.w) X.A (execs st X.env) (SP X pins E) X.xe s
section
variable {X : Cx} {e : Expr} {es : List Expr} {st : Stmt} {sts : List Stmt}
theorem pe_w : PE X e (wE X e) := ⟨fun pins s _ _ _ I h => h pins s I⟩
theorem pt_w : PT X e (wT X e) := ⟨fun pins s _ _ _ I h => h pins s I⟩
theorem pa_w : PA X es (wA X es) := ⟨fun pos pins s _ _ _ I h => h pos pins s I⟩
theorem ps_w : PS X st (wS X st) := ⟨fun pins s _ _ _ I h => h pins s I⟩
theorem pss_w : PSs X sts (wSs X sts) := ⟨fun pins s _ _ _ I h => h pins s I⟩
theorem w_pe {t : TE} (h : PE X e t) {σ H Q} (q : t σ H Q) : wE X e σ H Q := fun pins s I => h.run pins s σ H Q I q
theorem w_pt {t : TT} (h : PT X e t) {σ H Q} (q : t σ H Q) : wT X e σ H Q := fun pins s I => h.run pins s σ H Q I q
theorem w_pa {t : TA} (h : PA X es t) {σ H Q} (q : t σ H Q) : wA X es σ H Q := fun pos pins s I => h.run pos pins s σ H Q I q
theorem w_ps {t : TS} (h : PS X st t) {E σ H} (q : t E σ H) : wS X st E σ H := fun pins s I => h.run pins s σ H E I q
theorem w_pss {t : TS} (h : PSs X sts t) {E σ H} (q : t E σ H) : wSs X sts E σ H := fun pins s I => h.run pins s σ H E I q
end

/-! ### expressions that come to data -/
/-- what may follow a value -/
def Kv (I : Inf) (c : Ct) (G H : Hp) (σ : St) (ds : List SD) (P : D → Prop) (Q : VK) : Prop :=
  ∀ v G' H' d, Gr c.Z G H G' H' → S I c G' H' σ ds → Rp I.K G' d v → P d → Q v H'
def Ev (I : Inf) (c : Ct) (t : TE) (ds : List SD) (P : D → Prop) : Prop :=
  ∀ σ G H, S I c G H σ ds → ∀ Q : VK, Kv I c G H σ ds P Q → t σ H Q
def EvE (I : Inf) (c : Ct) (e : Expr) (ds : List SD) (P : D → Prop) : Prop := ∀ X, Fits I X → Ev I c (wE X e) ds P
def EvT (I : Inf) (c : Ct) (e : Expr) (ds : List SD) (P : Bool → Prop) : Prop :=
  ∀ X, Fits I X → ∀ σ G H, S I c G H σ ds → ∀ Q : Bool → Hp → Prop, (∀ b G' H', Gr c.Z G H G' H' → S I c G' H' σ ds → P b → Q b H') → wT X e σ H Q
def EvA (I : Inf) (c : Ct) (es : List Expr) (ds : List SD) (P : List D → Prop) : Prop :=
  ∀ X, Fits I X → ∀ σ G H, S I c G H σ ds → ∀ Q : List V → Hp → Prop, (∀ vs G' H' l, Gr c.Z G H G' H' → S I c G' H' σ ds → RpA I.K G' l vs → P l → Q vs H') → wA X es σ H Q
/-- an operation on two values that stand for data -/
def Rv (I : Inf) (c : Ct) (ds : List SD) (r : R2) (d e : D) (P : D → Prop) : Prop :=
  ∀ σ G H x y, S I c G H σ ds → Rp I.K G d x → Rp I.K G e y → ∀ Q : VK, Kv I c G H σ ds P Q → r x y H Q

section
variable {I : Inf} {c : Ct} {ds : List SD} {e a b : Expr} {es : List Expr} {P P' PA PB : D → Prop} {pos : Pos} {d : D}

theorem Kv.mono {G H G1 H1 : Hp} {σ : St} {Q : VK} (h : Kv I c G H σ ds P Q) (x : Gr c.Z G H G1 H1) : Kv I c G1 H1 σ ds P Q := fun v G' H' d e s r p => h v G' H' d (x.trans e) s r p
theorem Kv.now {G H : Hp} {σ : St} {Q : VK} {v : V} (h : Kv I c G H σ ds P Q) (s : S I c G H σ ds) (r : Rp I.K G d v) (p : P d) : Q v H := h v G H d Gr.refl s r p

theorem EvE.imp (h : EvE I c e ds P) (hp : ∀ d, P d → P' d) : EvE I c e ds P' := fun X F σ G H s Q k =>
  h X F σ G H s Q fun v G' H' d x s' r p => k v G' H' d x s' r (hp d p)
theorem EvT.imp {P P' : Bool → Prop} (h : EvT I c e ds P) (hp : ∀ d, P d → P' d) : EvT I c e ds P' := fun X F σ G H s Q k =>
  h X F σ G H s Q fun b G' H' x s' p => k b G' H' x s' (hp b p)
theorem EvE.is {d d' : D} (h : EvE I c e ds (· = d)) (hp : d = d') : EvE I c e ds (· = d') := by rw [← hp]; exact h
theorem EvT.is {d d' : Bool} (h : EvT I c e ds (· = d)) (hp : d = d') : EvT I c e ds (· = d') := by rw [← hp]; exact h

theorem ev_var (i : Nat) {x : Str} (hN : I.N[i]? = some x) (hv : Vis I.sc x) (hd : ds[i]? = some (.dat d)) (h1 : (x == ("__debug__" : Str)) = false := by decide) (h2 : (x == ("__classdict__" : Str)) = false := by decide) :
    EvE I c (.Name x pos) ds (· = d) := fun X F σ G H s Q k => by
  refine w_pe (pe_var (i := i) (by rw [F.N]; exact hN) (by rw [F.sc]; exact hv) h1 h2) ?_
  obtain ⟨v, e1, r⟩ := s.slots i _ hd
  refine ⟨v, ?_, k.now s r rfl⟩
  cases h : σ[i]? with
  | none => rw [h] at e1; cases e1
  | some o => rw [h] at e1; simpa using e1
theorem ev_int {i : Int} {j} : EvE I c (.Constant (.int i) j pos) ds (· = .int i) := fun X F σ G H s Q k => w_pe pe_int (k.now s .int rfl)
theorem ev_bl {i : Bool} {j} : EvE I c (.Constant (.bool i) j pos) ds (· = .bool i) := fun X F σ G H s Q k => w_pe pe_bl (k.now s .bl rfl)
theorem ev_str {i : Str} {j} : EvE I c (.Constant (.str i) j pos) ds (· = .str i) := fun X F σ G H s Q k => w_pe pe_str (k.now s .str rfl)
theorem ev_non {j} : EvE I c (.Constant .none j pos) ds (· = .none) := fun X F σ G H s Q k => w_pe pe_non (k.now s .non rfl)
/-- a constant of the module -/
theorem ev_globI {x : Str} {i : Int} {t : Tok} (hg : I.sc.names.lookup x = some .globalImplicit) (hm : I.mg x = some (.int i t)) (hd : (x == ("__debug__" : Str)) = false := by decide) :
    EvE I c (.Name x pos) ds (· = .int i) := fun X F σ G H s Q k => by
  refine w_pe (pe_glob (v := .int i) (by show X.env.scope.names.lookup x = _; rw [F.sc]; exact hg) (by rw [F.mg]; exact hm) ⟨_, rfl⟩ hd) (k.now s .int rfl)

/-! two operands -/
theorem ev_op {op : Operator} {r : R2} (ho : ∀ X, Fits I X → OpR X (binaryOp op) r) (ha : EvE I c a ds PA) (hb : EvE I c b ds PB)
    (h : ∀ d e, PA d → PB e → Rv I c ds r d e P) : EvE I c (.BinOp a op b pos) ds P := fun X F σ G H s Q k => by
  refine w_pe (pe_op (ho X F) pe_w pe_w) ?_
  refine ha X F σ G H s _ fun x G1 H1 d x1 s1 r1 p1 => ?_
  refine hb X F σ G1 H1 s1 _ fun y G2 H2 e x2 s2 r2 p2 => ?_
  exact h d e p1 p2 σ G2 H2 x y s2 (r1.mono x2.g) r2 Q (k.mono (x1.trans x2))
theorem ev_cmp {op : CmpOp} {r : R2} (ho : ∀ X, Fits I X → OpR X (compareOp op) r) (hm : behindInMarks op b = false) (ha : EvE I c a ds PA) (hb : EvE I c b ds PB)
    (h : ∀ d e, PA d → PB e → Rv I c ds r d e P) : EvE I c (.Compare a [op] [b] pos) ds P := fun X F σ G H s Q k => by
  refine w_pe (pe_cmpR (ho X F) pe_w pe_w hm) ?_
  refine ha X F σ G H s _ fun x G1 H1 d x1 s1 r1 p1 => ?_
  refine hb X F σ G1 H1 s1 _ fun y G2 H2 e x2 s2 r2 p2 => ?_
  exact h d e p1 p2 σ G2 H2 x y s2 (r1.mono x2.g) r2 Q (k.mono (x1.trans x2))

/-- an int of which something holds -/
def IsI (p : Int → Prop) : D → Prop := fun d => ∃ i, d = .int i ∧ p i
theorem isI {i : Int} : ∀ d, d = PyData.int i → IsI (· = i) d := fun _ h => ⟨_, h, rfl⟩
theorem isI' {i : Int} : ∀ d, IsI (· = i) d → d = PyData.int i := fun _ ⟨_, h, e⟩ => by rw [h, e]

theorem rv_I0 {g : Int → Int → Int} {i j : Int} (hp : P (.int (g i j))) : Rv I c ds (rI0 fun i j => .int (g i j)) (.int i) (.int j) P := fun σ G H x y s rx ry Q k => by
  rw [rx.int', ry.int']; exact ⟨i, j, rfl, rfl, k.now s .int hp⟩
theorem rv_I {C : Int → Int → Prop} {g : Int → Int → Int} {i j : Int} (hc : C i j) (hp : P (.int (g i j))) : Rv I c ds (rI C fun i j => .int (g i j)) (.int i) (.int j) P := fun σ G H x y s rx ry Q k => by
  rw [rx.int', ry.int']; exact ⟨i, j, rfl, rfl, hc, k.now s .int hp⟩
theorem rv_B0 {g : Int → Int → Bool} {i j : Int} (hp : P (.bool (g i j))) : Rv I c ds (rI0 fun i j => .bl (g i j)) (.int i) (.int j) P := fun σ G H x y s rx ry Q k => by
  rw [rx.int', ry.int']; exact ⟨i, j, rfl, rfl, k.now s .bl hp⟩

section
variable {p q r : Int → Prop} {i j : Int}
theorem ev_addP (ha : EvE I c a ds (IsI p)) (hb : EvE I c b ds (IsI q)) (h : ∀ i j, p i → q j → r (i + j)) : EvE I c (.BinOp a .Add b pos) ds (IsI r) :=
  ev_op (fun _ _ => op_add) ha hb fun d e ⟨i, hi, pi⟩ ⟨j, hj, qj⟩ => by rw [hi, hj]; exact rv_I0 ⟨_, rfl, h i j pi qj⟩
theorem ev_subP (ha : EvE I c a ds (IsI p)) (hb : EvE I c b ds (IsI q)) (h : ∀ i j, p i → q j → r (i - j)) : EvE I c (.BinOp a .Sub b pos) ds (IsI r) :=
  ev_op (fun _ _ => op_sub) ha hb fun d e ⟨i, hi, pi⟩ ⟨j, hj, qj⟩ => by rw [hi, hj]; exact rv_I0 ⟨_, rfl, h i j pi qj⟩
theorem ev_mulP (ha : EvE I c a ds (IsI p)) (hb : EvE I c b ds (IsI q)) (hc : ∀ i j, p i → q j → CMulW i j) (h : ∀ i j, p i → q j → r (i * j)) : EvE I c (.BinOp a .Mult b pos) ds (IsI r) :=
  ev_op (fun _ _ => op_mulW) ha hb fun d e ⟨i, hi, pi⟩ ⟨j, hj, qj⟩ => by rw [hi, hj]; exact rv_I (hc i j pi qj) ⟨_, rfl, h i j pi qj⟩
theorem ev_add (ha : EvE I c a ds (· = .int i)) (hb : EvE I c b ds (· = .int j)) : EvE I c (.BinOp a .Add b pos) ds (· = .int (i + j)) :=
  ev_op (fun _ _ => op_add) ha hb fun d e hi hj => by rw [hi, hj]; exact rv_I0 rfl
theorem ev_sub (ha : EvE I c a ds (· = .int i)) (hb : EvE I c b ds (· = .int j)) : EvE I c (.BinOp a .Sub b pos) ds (· = .int (i - j)) :=
  ev_op (fun _ _ => op_sub) ha hb fun d e hi hj => by rw [hi, hj]; exact rv_I0 rfl
theorem ev_mul (ha : EvE I c a ds (· = .int i)) (hb : EvE I c b ds (· = .int j)) (hc : CMulW i j) : EvE I c (.BinOp a .Mult b pos) ds (· = .int (i * j)) :=
  ev_op (fun _ _ => op_mulW) ha hb fun d e hi hj => by rw [hi, hj]; exact rv_I hc rfl
/-- a floor by a positive divisor -/
theorem ev_div (ha : EvE I c a ds (· = .int i)) (hb : EvE I c b ds (· = .int j)) (hc : CDivW i j) : EvE I c (.BinOp a .FloorDiv b pos) ds (· = .int (i / j)) :=
  ev_op (fun _ _ => op_fdivW) ha hb fun d e hi hj => by rw [hi, hj]; exact rv_I hc rfl
theorem ev_mod (ha : EvE I c a ds (· = .int i)) (hb : EvE I c b ds (· = .int j)) (hc : 0 < j) : EvE I c (.BinOp a .Mod b pos) ds (· = .int (i % j)) :=
  ev_op (fun _ _ => op_mod) ha hb fun d e hi hj => by rw [hi, hj]; exact rv_I hc rfl
theorem ev_lt (ha : EvE I c a ds (· = .int i)) (hb : EvE I c b ds (· = .int j)) : EvE I c (.Compare a [.Lt] [b] pos) ds (· = .bool (decide (i < j))) :=
  ev_cmp (fun _ _ => op_lt) (nobehind _ (by decide) (by decide)) ha hb fun d e hi hj => by rw [hi, hj]; exact rv_B0 rfl
theorem ev_le (ha : EvE I c a ds (· = .int i)) (hb : EvE I c b ds (· = .int j)) : EvE I c (.Compare a [.LtE] [b] pos) ds (· = .bool (decide (i ≤ j))) :=
  ev_cmp (fun _ _ => op_le) (nobehind _ (by decide) (by decide)) ha hb fun d e hi hj => by rw [hi, hj]; exact rv_B0 rfl
theorem ev_gt (ha : EvE I c a ds (· = .int i)) (hb : EvE I c b ds (· = .int j)) : EvE I c (.Compare a [.Gt] [b] pos) ds (· = .bool (decide (j < i))) :=
  ev_cmp (fun _ _ => op_gt) (nobehind _ (by decide) (by decide)) ha hb fun d e hi hj => by rw [hi, hj]; exact rv_B0 rfl
theorem ev_ge (ha : EvE I c a ds (· = .int i)) (hb : EvE I c b ds (· = .int j)) : EvE I c (.Compare a [.GtE] [b] pos) ds (· = .bool (decide (j ≤ i))) :=
  ev_cmp (fun _ _ => op_ge) (nobehind _ (by decide) (by decide)) ha hb fun d e hi hj => by rw [hi, hj]; exact rv_B0 rfl
end
/-- == of data at any depth -/
theorem rv_eq {d e : D} (sd : SeqAt.shaped d = true) (se : SeqAt.shaped e = true) (hp : P (.bool (PyData.eqv d e))) : Rv I c ds (rEqD I.K) d e P := fun σ G H x y s rx ry Q k =>
  ⟨d, e, rx.dp s.ex _, ry.dp s.ex _, sd, se, k.now s .bl hp⟩
theorem rv_ne {d e : D} (sd : SeqAt.shaped d = true) (se : SeqAt.shaped e = true) (hp : P (.bool (!PyData.eqv d e))) : Rv I c ds (rNeD I.K) d e P := fun σ G H x y s rx ry Q k =>
  ⟨d, e, rx.dp s.ex _, ry.dp s.ex _, sd, se, k.now s .bl hp⟩
theorem ev_eq {d e : D} (ha : EvE I c a ds (· = d)) (hb : EvE I c b ds (· = e)) (sd : SeqAt.shaped d = true) (se : SeqAt.shaped e = true) : EvE I c (.Compare a [.Eq] [b] pos) ds (· = .bool (PyData.eqv d e)) :=
  ev_cmp (r := rEqD I.K) (fun X F => by have := op_eqD (X := X) F.room.units; rw [F.K] at this; exact this) (nobehind _ (by decide) (by decide)) ha hb fun d' e' hi hj => by rw [hi, hj]; exact rv_eq sd se rfl
theorem ev_ne {d e : D} (ha : EvE I c a ds (· = d)) (hb : EvE I c b ds (· = e)) (sd : SeqAt.shaped d = true) (se : SeqAt.shaped e = true) : EvE I c (.Compare a [.NotEq] [b] pos) ds (· = .bool (!PyData.eqv d e)) :=
  ev_cmp (r := rNeD I.K) (fun X F => by have := op_neD (X := X) F.room.units; rw [F.K] at this; exact this) (nobehind _ (by decide) (by decide)) ha hb fun d' e' hi hj => by rw [hi, hj]; exact rv_ne sd se rfl

/-! one operand -/
theorem ev_neg {i : Int} (ha : EvE I c a ds (· = .int i)) : EvE I c (.UnaryOp .USub a pos) ds (· = .int (-i)) := fun X F σ G H s Q k => by
  refine w_pe (pe_un un_neg pe_w) (ha X F σ G H s _ fun x G1 H1 d x1 s1 r1 p1 => ?_)
  subst p1; rw [r1.int']
  exact ⟨i, rfl, (k.mono x1).now s1 .int rfl⟩

/-! tests -/
theorem et_val {b : Bool} (h : EvE I c e ds (· = .bool b)) (he : ∀ X, Fits I X → ∀ whole, isTrue e X.env whole = (do let v ← whole; standAt e.pos; holding [v] (truthy v)) := by intros; rfl) : EvT I c e ds (· = b) :=
  fun X F σ G H s Q k => w_pt (pt_val pe_w (he X F)) (h X F σ G H s _ fun x G1 H1 d x1 s1 r1 p1 => by
    subst p1; rw [r1.bl']; exact ⟨b, rfl, k b G1 H1 x1 s1 rfl⟩)
theorem et_cmp {op : CmpOp} {r : R2} {b' : Bool} (ho : ∀ X, Fits I X → OpR X (compareOp op) r) (hm : behindInMarks op b = false) (ha : EvE I c a ds PA) (hb : EvE I c b ds PB)
    (h : ∀ d e, PA d → PB e → Rv I c ds r d e (· = .bool b')) : EvT I c (.Compare a [op] [b] pos) ds (· = b') := fun X F σ G H s Q k => by
  refine w_pt (pt_cmpR (ho X F) pe_w pe_w hm) ?_
  refine ha X F σ G H s _ fun x G1 H1 d x1 s1 r1 p1 => ?_
  refine hb X F σ G1 H1 s1 _ fun y G2 H2 e x2 s2 r2 p2 => ?_
  refine h d e p1 p2 σ G2 H2 x y s2 (r1.mono x2.g) r2 _ fun v G3 H3 t x3 s3 r3 p3 => ?_
  subst p3; rw [r3.bl']
  exact ⟨b', rfl, k b' G3 H3 ((x1.trans x2).trans x3) s3 rfl⟩
section
variable {i j : Int}
theorem et_lt (ha : EvE I c a ds (· = .int i)) (hb : EvE I c b ds (· = .int j)) : EvT I c (.Compare a [.Lt] [b] pos) ds (· = decide (i < j)) :=
  et_cmp (fun _ _ => op_lt) (nobehind _ (by decide) (by decide)) ha hb fun d e hi hj => by rw [hi, hj]; exact rv_B0 rfl
theorem et_le (ha : EvE I c a ds (· = .int i)) (hb : EvE I c b ds (· = .int j)) : EvT I c (.Compare a [.LtE] [b] pos) ds (· = decide (i ≤ j)) :=
  et_cmp (fun _ _ => op_le) (nobehind _ (by decide) (by decide)) ha hb fun d e hi hj => by rw [hi, hj]; exact rv_B0 rfl
theorem et_gt (ha : EvE I c a ds (· = .int i)) (hb : EvE I c b ds (· = .int j)) : EvT I c (.Compare a [.Gt] [b] pos) ds (· = decide (j < i)) :=
  et_cmp (fun _ _ => op_gt) (nobehind _ (by decide) (by decide)) ha hb fun d e hi hj => by rw [hi, hj]; exact rv_B0 rfl
theorem et_ge (ha : EvE I c a ds (· = .int i)) (hb : EvE I c b ds (· = .int j)) : EvT I c (.Compare a [.GtE] [b] pos) ds (· = decide (j ≤ i)) :=
  et_cmp (fun _ _ => op_ge) (nobehind _ (by decide) (by decide)) ha hb fun d e hi hj => by rw [hi, hj]; exact rv_B0 rfl
theorem et_eqI (ha : EvE I c a ds (· = .int i)) (hb : EvE I c b ds (· = .int j)) : EvT I c (.Compare a [.Eq] [b] pos) ds (· = decide (i = j)) :=
  et_cmp (fun _ _ => op_eq) (nobehind _ (by decide) (by decide)) ha hb fun d e hi hj => by
    rw [hi, hj]; intro σ G H x y s rx ry Q k; rw [rx.int', ry.int']
    refine ⟨rfl, k.now s .bl ?_⟩
    congr 1; exact decide_eq_decide.mpr ⟨fun h => by injection h, fun h => by rw [h]⟩
theorem et_neI (ha : EvE I c a ds (· = .int i)) (hb : EvE I c b ds (· = .int j)) : EvT I c (.Compare a [.NotEq] [b] pos) ds (· = !decide (i = j)) :=
  et_cmp (fun _ _ => op_ne) (nobehind _ (by decide) (by decide)) ha hb fun d e hi hj => by
    rw [hi, hj]; intro σ G H x y s rx ry Q k; rw [rx.int', ry.int']
    refine ⟨rfl, k.now s .bl ?_⟩
    congr 2; exact decide_eq_decide.mpr ⟨fun h => by injection h, fun h => by rw [h]⟩
end
theorem et_eq {d e : D} (ha : EvE I c a ds (· = d)) (hb : EvE I c b ds (· = e)) (sd : SeqAt.shaped d = true) (se : SeqAt.shaped e = true) : EvT I c (.Compare a [.Eq] [b] pos) ds (· = PyData.eqv d e) :=
  et_cmp (r := rEqD I.K) (fun X F => by have := op_eqD (X := X) F.room.units; rw [F.K] at this; exact this) (nobehind _ (by decide) (by decide)) ha hb fun d' e' hi hj => by rw [hi, hj]; exact rv_eq sd se rfl
theorem et_ne {d e : D} (ha : EvE I c a ds (· = d)) (hb : EvE I c b ds (· = e)) (sd : SeqAt.shaped d = true) (se : SeqAt.shaped e = true) : EvT I c (.Compare a [.NotEq] [b] pos) ds (· = !PyData.eqv d e) :=
  et_cmp (r := rNeD I.K) (fun X F => by have := op_neD (X := X) F.room.units; rw [F.K] at this; exact this) (nobehind _ (by decide) (by decide)) ha hb fun d' e' hi hj => by rw [hi, hj]; exact rv_ne sd se rfl
theorem et_not {b : Bool} (h : EvT I c e ds (· = b)) : EvT I c (.UnaryOp .Not e pos) ds (· = !b) := fun X F σ G H s Q k =>
  w_pt (pt_not pt_w) (h X F σ G H s _ fun b' G1 H1 x1 s1 p1 => by subst p1; exact k _ G1 H1 x1 s1 rfl)
/-- and, or as tests: two or more parts -/
theorem et_and1 {b : Bool} (h : EvT I c e ds (· = b)) : EvT I c (.BoolOp .And [e] pos) ds (· = b) := fun X F σ G H s Q k => w_pt (PW.pt (pw_and1 pt_w)) (h X F σ G H s Q k)
theorem et_or1 {b : Bool} (h : EvT I c e ds (· = b)) : EvT I c (.BoolOp .Or [e] pos) ds (· = b) := fun X F σ G H s Q k => w_pt (PW.pt (pw_or1 pt_w)) (h X F σ G H s Q k)
end
end Dl


set_option Elab.async false
set_option linter.all false
namespace Dl
open PySem L2
section
variable {I : Inf} {c : Ct} {ds : List SD} {e a b : Expr} {es rest : List Expr} {P P' PA PB : D → Prop} {pos : Pos} {d : D}

/-! and, or: as tests, as values -/
/-- a test whatever its whole is -/
def wW (X : Cx) (e : Expr) : TT := fun σ H Q => ∀ (whole : Sem Value) (pins : List (Addr × Obj)) (s : Shared), Inv X pins σ H s → wpAny (model X.prog X.w) X.A (isTrue e X.env whole) (TP X pins σ Q) X.xe s
theorem pw_w {X : Cx} : PW X e (wW X e) := ⟨fun wh pins s _ _ _ I h => h wh pins s I⟩
theorem w_pw {X : Cx} {t : TT} (h : PW X e t) {σ H Q} (q : t σ H Q) : wW X e σ H Q := fun wh pins s I => h.run wh pins s σ H Q I q
def EvW (I : Inf) (c : Ct) (e : Expr) (ds : List SD) (P : Bool → Prop) : Prop :=
  ∀ X, Fits I X → ∀ σ G H, S I c G H σ ds → ∀ Q : Bool → Hp → Prop, (∀ b G' H', Gr c.Z G H G' H' → S I c G' H' σ ds → P b → Q b H') → wW X e σ H Q
theorem et_of {P : Bool → Prop} (h : EvW I c e ds P) : EvT I c e ds P := fun X F σ G H s Q k => w_pt (PW.pt pw_w) (h X F σ G H s Q k)
theorem ew_and1 {P : Bool → Prop} (h : EvT I c e ds P) : EvW I c (.BoolOp .And [e] pos) ds P := fun X F σ G H s Q k => w_pw (pw_and1 pt_w) (h X F σ G H s Q k)
theorem ew_or1 {P : Bool → Prop} (h : EvT I c e ds P) : EvW I c (.BoolOp .Or [e] pos) ds P := fun X F σ G H s Q k => w_pw (pw_or1 pt_w) (h X F σ G H s Q k)
theorem ew_and {x y : Bool} (h1 : EvT I c e ds (· = x)) (h2 : x = true → EvW I c (.BoolOp .And (b :: rest) pos) ds (· = y)) : EvW I c (.BoolOp .And (e :: b :: rest) pos) ds (· = (x && y)) :=
  fun X F σ G H s Q k => w_pw (pw_and pt_w pw_w) (h1 X F σ G H s _ fun b' G1 H1 x1 s1 p1 => by
    subst p1
    cases b' with
    | true => exact iteT (h2 rfl X F σ G1 H1 s1 _ fun b2 G2 H2 x2 s2 p2 => k b2 G2 H2 (x1.trans x2) s2 (by rw [p2]; rfl))
    | false => exact iteF (k false G1 H1 x1 s1 rfl))
theorem ew_or {x y : Bool} (h1 : EvT I c e ds (· = x)) (h2 : x = false → EvW I c (.BoolOp .Or (b :: rest) pos) ds (· = y)) : EvW I c (.BoolOp .Or (e :: b :: rest) pos) ds (· = (x || y)) :=
  fun X F σ G H s Q k => w_pw (pw_or pt_w pw_w) (h1 X F σ G H s _ fun b' G1 H1 x1 s1 p1 => by
    subst p1
    cases b' with
    | false => exact iteF (h2 rfl X F σ G1 H1 s1 _ fun b2 G2 H2 x2 s2 p2 => k b2 G2 H2 (x1.trans x2) s2 (by rw [p2]; rfl))
    | true => exact iteT (k true G1 H1 x1 s1 rfl))
theorem ev_one {op} (h : EvE I c a ds P) : EvE I c (.BoolOp op [a] pos) ds P := fun X F σ G H s Q k => w_pe (pe_one pe_w) (h X F σ G H s Q k)
theorem ev_and {x y : Bool} (h1 : EvE I c e ds (· = .bool x)) (h2 : x = true → EvE I c (.BoolOp .And (b :: rest) pos) ds (· = .bool y)) : EvE I c (.BoolOp .And (e :: b :: rest) pos) ds (· = .bool (x && y)) :=
  fun X F σ G H s Q k => w_pe (pe_and pe_w pe_w) (h1 X F σ G H s _ fun v G1 H1 d1 x1 s1 r1 p1 => by
    subst p1; refine ⟨x, r1.bl', ?_⟩
    cases x with
    | true => exact iteT (h2 rfl X F σ G1 H1 s1 _ fun v2 G2 H2 d2 x2 s2 r2 p2 => k v2 G2 H2 d2 (x1.trans x2) s2 r2 (by rw [p2]; rfl))
    | false => exact iteF ((k.mono x1).now s1 .bl rfl))
theorem ev_or {x y : Bool} (h1 : EvE I c e ds (· = .bool x)) (h2 : x = false → EvE I c (.BoolOp .Or (b :: rest) pos) ds (· = .bool y)) : EvE I c (.BoolOp .Or (e :: b :: rest) pos) ds (· = .bool (x || y)) :=
  fun X F σ G H s Q k => w_pe (pe_or pe_w pe_w) (h1 X F σ G H s _ fun v G1 H1 d1 x1 s1 r1 p1 => by
    subst p1; refine ⟨x, r1.bl', ?_⟩
    cases x with
    | false => exact iteF (h2 rfl X F σ G1 H1 s1 _ fun v2 G2 H2 d2 x2 s2 r2 p2 => k v2 G2 H2 d2 (x1.trans x2) s2 r2 (by rw [p2]; rfl))
    | true => exact iteT ((k.mono x1).now s1 .bl rfl))
theorem ev_not {x : Bool} (h1 : EvE I c e ds (· = .bool x)) : EvE I c (.UnaryOp .Not e pos) ds (· = .bool (!x)) :=
  fun X F σ G H s Q k => w_pe (pe_not pe_w) (h1 X F σ G H s _ fun v G1 H1 d1 x1 s1 r1 p1 => by
    subst p1; exact ⟨x, r1.bl', (k.mono x1).now s1 .bl rfl⟩)
/-- a if t else b -/
theorem ev_if {t : Expr} {PT : Bool → Prop} (h : EvT I c t ds PT) (h1 : PT true → EvE I c a ds P) (h2 : PT false → EvE I c b ds P) : EvE I c (.IfExp t a b pos) ds P :=
  fun X F σ G H s Q k => w_pe (pe_ifExp pt_w pe_w pe_w) (h X F σ G H s _ fun b' G1 H1 x1 s1 p1 => by
    cases b' with
    | true => exact iteT (h1 p1 X F σ G1 H1 s1 Q (k.mono x1))
    | false => exact iteF (h2 p1 X F σ G1 H1 s1 Q (k.mono x1)))
/-- a < b < c and its like, of ints -/
theorem ev_chainI {op op' : CmpOp} {g g' : Int → Int → Bool} {i j m : Int} {cc : Expr} (ho : ∀ X, OpR X (compareOp op) (rI0 fun i j => .bl (g i j))) (ho' : ∀ X, OpR X (compareOp op') (rI0 fun i j => .bl (g' i j)))
    (hm : lastMarks [op, op'] [b, cc] = false) (ha : EvE I c a ds (· = .int i)) (hb : EvE I c b ds (· = .int j)) (hc : EvE I c cc ds (· = .int m)) :
    EvE I c (.Compare a [op, op'] [b, cc] pos) ds (· = .bool (g i j && g' j m)) := fun X F σ G H s Q k => by
  refine w_pe (pe_chain (ho X) (ho' X) pe_w pe_w pe_w hm) ?_
  refine ha X F σ G H s _ fun x G1 H1 d x1 s1 r1 p1 => hb X F σ G1 H1 s1 _ fun y G2 H2 e x2 s2 r2 p2 => ?_
  subst p1; subst p2; rw [r1.int', r2.int']
  refine ⟨i, j, rfl, rfl, g i j, rfl, ?_⟩
  cases h : g i j with
  | true =>
    refine iteT (hc X F σ G2 H2 s2 _ fun z G3 H3 t x3 s3 r3 p3 => ?_)
    subst p3; rw [r3.int']
    exact ⟨j, m, rfl, rfl, (k.mono ((x1.trans x2).trans x3)).now s3 .bl (by rw [h]; rfl)⟩
  | false => exact iteF ((k.mono (x1.trans x2)).now s2 .bl (by rw [h]; rfl))
theorem et_chainI {op op' : CmpOp} {g g' : Int → Int → Bool} {i j m : Int} {cc : Expr} (ho : ∀ X, OpR X (compareOp op) (rI0 fun i j => .bl (g i j))) (ho' : ∀ X, OpR X (compareOp op') (rI0 fun i j => .bl (g' i j)))
    (hm : lastMarks [op, op'] [b, cc] = false) (ha : EvE I c a ds (· = .int i)) (hb : EvE I c b ds (· = .int j)) (hc : EvE I c cc ds (· = .int m)) :
    EvT I c (.Compare a [op, op'] [b, cc] pos) ds (· = (g i j && g' j m)) := fun X F σ G H s Q k => by
  refine w_pt (pt_chain (ho X) (ho' X) pe_w pe_w pe_w hm) ?_
  refine ha X F σ G H s _ fun x G1 H1 d x1 s1 r1 p1 => hb X F σ G1 H1 s1 _ fun y G2 H2 e x2 s2 r2 p2 => ?_
  subst p1; subst p2; rw [r1.int', r2.int']
  refine ⟨i, j, rfl, rfl, g i j, rfl, ?_⟩
  cases h : g i j with
  | true =>
    refine iteT (hc X F σ G2 H2 s2 _ fun z G3 H3 t x3 s3 r3 p3 => ?_)
    subst p3; rw [r3.int']
    exact ⟨j, m, rfl, rfl, g' j m, rfl, k _ _ _ ((x1.trans x2).trans x3) s3 (by rw [h]; rfl)⟩
  | false => exact iteF ⟨false, rfl, k _ _ _ (x1.trans x2) s2 (by rw [h]; rfl)⟩

/-! argument lists, displays -/
theorem ea_nil : EvA I c [] ds (· = []) := fun X F σ G H s Q k => w_pa pa_nil (k [] G H [] Gr.refl s .nil rfl)
theorem ea_consP {R T : List D → Prop} (h : EvE I c e ds P) (hr : EvA I c es ds R) (hp : ∀ d l, P d → R l → T (d :: l))
    (hs : ∀ X, Fits I X → starEach (e :: es) X.env = (false, eval e X.env) :: starEach es X.env := by intros; rfl) : EvA I c (e :: es) ds T := fun X F σ G H s Q k =>
  w_pa (pa_cons pe_w pa_w (hs X F)) (h X F σ G H s _ fun v G1 H1 d x1 s1 r1 p1 => hr X F σ G1 H1 s1 _ fun vs G2 H2 l x2 s2 r2 p2 =>
    k (v :: vs) G2 H2 (d :: l) (x1.trans x2) s2 (.cons (r1.mono x2.g) r2) (hp d l p1 p2))
theorem ea_cons {l : List D} (h : EvE I c e ds (· = d)) (hr : EvA I c es ds (· = l))
    (hs : ∀ X, Fits I X → starEach (e :: es) X.env = (false, eval e X.env) :: starEach es X.env := by intros; rfl) : EvA I c (e :: es) ds (· = d :: l) :=
  ea_consP h hr (fun d' l' h1 h2 => by rw [h1, h2]) hs
theorem ev_tupP {R : List D → Prop} {x1} (h : EvA I c es ds R) (hl : ∀ l, R l → l.length ≤ Lm) (hp : ∀ l, R l → P (.tuple l)) : EvE I c (.Tuple es x1 pos) ds P := fun X F σ G H s Q k =>
  w_pe (pe_tup pa_w) (h X F σ G H s _ fun vs G1 H1 l x1 s1 r1 p1 => ⟨by rw [r1.length]; exact Lm_le (hl l p1), fun p np => by
    obtain ⟨s2, x2⟩ := s1.laid (o := .tup vs) np
    exact k _ _ _ _ (x1.trans x2) s2 (.tup (SqT.of upd_same) (hl l p1) (r1.mono x2.g)) (hp l p1)⟩)
theorem ev_tup {l : List D} {x1} (h : EvA I c es ds (· = l)) (hl : l.length ≤ Lm := by decide) : EvE I c (.Tuple es x1 pos) ds (· = .tuple l) :=
  ev_tupP h (fun l' e => by rw [e]; exact hl) (fun l' e => by rw [e])
theorem ev_lstP {R : List D → Prop} (h : EvA I c es ds R) (hl : ∀ l, R l → l.length ≤ Lm) (hp : ∀ l, R l → P (.list l)) : EvE I c (.List es pos) ds P := fun X F σ G H s Q k =>
  w_pe (pe_lst pa_w) (h X F σ G H s _ fun vs G1 H1 l x1 s1 r1 p1 => ⟨by rw [r1.length]; exact Lm_le (hl l p1), fun p np => by
    obtain ⟨s2, x2⟩ := s1.laid (o := .lst vs) np
    exact k _ _ _ _ (x1.trans x2) s2 (.lst upd_same (hl l p1) (r1.mono x2.g)) (hp l p1)⟩)
theorem ev_lst {l : List D} (h : EvA I c es ds (· = l)) (hl : l.length ≤ Lm := by decide) : EvE I c (.List es pos) ds (· = .list l) :=
  ev_lstP h (fun l' e => by rw [e]; exact hl) (fun l' e => by rw [e])

/-! items, slices -/
theorem RpA.atI {K : Frag} {G : Hp} {l : List D} {vs : List V} (r : RpA K G l vs) {i : Int} {d : D} (h : atI l i = some d) : ∃ v, L2.atI vs i = some v ∧ Rp K G d v := by
  unfold L2.atI at *
  rw [r.length]
  cases e : ixN l.length i with
  | none => rw [e] at h; cases h
  | some j =>
    rw [e] at h
    exact r.get h
theorem rv_ix {K : Frag} {l : List D} {i : Int} (hi : I.K = K) (ha : atI l i = some d) (hp : P d) (w : D) (hw : w = .list l ∨ w = .tuple l) : Rv I c ds (rIx K) w (.int i) P := fun σ G H x y s rx ry Q k => by
  subst hi
  rw [ry.int']
  rcases hw with rfl | rfl
  · obtain ⟨a, xs, rfl, h1, _, r⟩ := rx.lst'
    obtain ⟨v, h2, h3⟩ := r.atI ha
    exact .inl ⟨a, xs, i, v, rfl, rfl, SqL.of (s.ex _ _ h1), h2, k.now s h3 hp⟩
  · obtain ⟨a, xs, rfl, h1, _, r⟩ := rx.tup'
    obtain ⟨v, h2, h3⟩ := r.atI ha
    exact .inr (.inl ⟨a, xs, i, v, rfl, rfl, ex_t s.ex h1, h2, k.now s h3 hp⟩)
theorem ev_ixP (ha : EvE I c a ds PA) (hb : EvE I c b ds PB) (h : ∀ x y, PA x → PB y → ∃ l i d, y = .int i ∧ (x = .list l ∨ x = .tuple l) ∧ atI l i = some d ∧ P d)
    (hs : PlainIx b := by exact fun _ _ => rfl) : EvE I c (.Subscript a b pos) ds P := fun X F σ G H s Q k => by
  refine w_pe (pe_ix (r := rIx X.K) ix_seq pe_w pe_w hs) ?_
  refine ha X F σ G H s _ fun x G1 H1 d x1 s1 r1 p1 => hb X F σ G1 H1 s1 _ fun y G2 H2 e x2 s2 r2 p2 => ?_
  obtain ⟨l, i, d', rfl, hx, hat, hp⟩ := h d e p1 p2
  exact rv_ix F.K.symm hat hp d hx σ G2 H2 x y s2 (r1.mono x2.g) r2 Q (k.mono (x1.trans x2))
theorem ev_ixL {l : List D} {i : Int} (ha : EvE I c a ds (· = .list l)) (hb : EvE I c b ds (· = .int i)) (h : atI l i = some d) (hs : PlainIx b := by exact fun _ _ => rfl) : EvE I c (.Subscript a b pos) ds (· = d) :=
  ev_ixP ha hb (fun x y hx hy => ⟨l, i, d, hy, .inl hx, h, rfl⟩) hs
theorem ev_ixT {l : List D} {i : Int} (ha : EvE I c a ds (· = .tuple l)) (hb : EvE I c b ds (· = .int i)) (h : atI l i = some d) (hs : PlainIx b := by exact fun _ _ => rfl) : EvE I c (.Subscript a b pos) ds (· = d) :=
  ev_ixP ha hb (fun x y hx hy => ⟨l, i, d, hy, .inr hx, h, rfl⟩) hs

def EvO (I : Inf) (c : Ct) (e : Option Expr) (ds : List SD) (P : Option Int → Prop) : Prop :=
  ∀ X, Fits I X → ∃ t, PO X e t ∧ ∀ σ G H, S I c G H σ ds → ∀ Q : Option Int → Hp → Prop, (∀ o G' H', Gr c.Z G H G' H' → S I c G' H' σ ds → P o → Q o H') → t σ H Q
theorem eo_none : EvO I c none ds (· = none) := fun X F => ⟨_, po_none, fun σ G H s Q k => k none G H Gr.refl s rfl⟩
theorem eo_someP {p : Int → Prop} (h : EvE I c e ds (IsI p)) : EvO I c (some e) ds (fun o => ∃ i, o = some i ∧ p i) := fun X F => ⟨_, po_some pe_w, fun σ G H s Q k => h X F σ G H s _ fun v G1 H1 d x1 s1 r1 p1 => by
  obtain ⟨i, rfl, pi⟩ := p1
  exact ⟨i, r1.int', k (some i) G1 H1 x1 s1 ⟨i, rfl, pi⟩⟩⟩
theorem eo_some {i : Int} (h : EvE I c e ds (· = .int i)) : EvO I c (some e) ds (· = some i) := fun X F => ⟨_, po_some pe_w, fun σ G H s Q k => h X F σ G H s _ fun v G1 H1 d x1 s1 r1 p1 => by
  subst p1
  exact ⟨i, r1.int', k (some i) G1 H1 x1 s1 rfl⟩⟩
/-- the part of a list that a slice takes -/
def cutD {α : Type} (l : List α) (lo hi : Option Int) : List α := (l.drop (HT.sIx l.length 0 lo)).take (HT.sIx l.length l.length hi - HT.sIx l.length 0 lo)
theorem cutD_length {α : Type} (l : List α) (lo hi : Option Int) : (cutD l lo hi).length ≤ l.length := by
  unfold cutD; rw [List.length_take, List.length_drop]; omega
theorem RpA.cut {K : Frag} {G : Hp} {l : List D} {vs : List V} (r : RpA K G l vs) (lo hi : Option Int) : RpA K G (cutD l lo hi) (cutV vs lo hi) := by
  unfold cutD cutV; rw [r.length]; exact (r.drop _).take _
theorem ev_slTP {lo hi : Option Expr} {p2 : Pos} {PL PH : Option Int → Prop} (ha : EvE I c a ds PA) (h1 : EvO I c lo ds PL) (h2 : EvO I c hi ds PH)
    (h : ∀ x o u, PA x → PL o → PH u → ∃ l, x = .tuple l ∧ P (.tuple (cutD l o u))) : EvE I c (.Subscript a (.Slice lo hi none p2) pos) ds P := fun X F σ G H s Q k => by
  obtain ⟨tl, pl, ql⟩ := h1 X F
  obtain ⟨th, ph, qh⟩ := h2 X F
  refine w_pe (pe_slice sl_tupA pe_w pl ph) ?_
  refine ha X F σ G H s _ fun x G1 H1 d x1 s1 r1 p1 => ql σ G1 H1 s1 _ fun o G2 H2 x2 s2 p2 => qh σ G2 H2 s2 _ fun u G3 H3 x3 s3 p3 => ?_
  obtain ⟨l, rfl, hp⟩ := h d o u p1 p2 p3
  obtain ⟨a', xs, rfl, hq, hl, r⟩ := (r1.mono (x2.trans x3).g).tup'
  have hlen := r.length
  refine ⟨a', xs, rfl, by rw [F.K]; exact ex_t s3.ex hq, fun hw => ?_, fun _ p np => ?_⟩
  · rw [hlen] at hw
    have e : cutD l o u = l := by
      unfold cutD; rw [hw.1, hw.2]; simp
    rw [e] at hp
    exact (k.mono ((x1.trans x2).trans x3)).now s3 (.tup hq hl r) hp
  · obtain ⟨s4, x4⟩ := s3.laid (o := .tup (cutV xs o u)) np
    exact k _ _ _ _ (((x1.trans x2).trans x3).trans x4) s4 (.tup (SqT.of upd_same) (Nat.le_trans (cutD_length l o u) hl) ((r.cut o u).mono x4.g)) hp
theorem ev_slT {lo hi : Option Expr} {p2 : Pos} {l : List D} {o u : Option Int} (ha : EvE I c a ds (· = .tuple l)) (h1 : EvO I c lo ds (· = o)) (h2 : EvO I c hi ds (· = u)) :
    EvE I c (.Subscript a (.Slice lo hi none p2) pos) ds (· = .tuple (cutD l o u)) :=
  ev_slTP ha h1 h2 fun x o' u' hx ho hu => ⟨l, hx, by rw [ho, hu]⟩
theorem ev_slL {lo hi : Option Expr} {p2 : Pos} {l : List D} {o u : Option Int} (ha : EvE I c a ds (· = .list l)) (h1 : EvO I c lo ds (· = o)) (h2 : EvO I c hi ds (· = u)) :
    EvE I c (.Subscript a (.Slice lo hi none p2) pos) ds (· = .list (cutD l o u)) := fun X F σ G H s Q k => by
  obtain ⟨tl, pl, ql⟩ := h1 X F
  obtain ⟨th, ph, qh⟩ := h2 X F
  refine w_pe (pe_slice sl_list pe_w pl ph) ?_
  refine ha X F σ G H s _ fun x G1 H1 d x1 s1 r1 p1 => ql σ G1 H1 s1 _ fun o' G2 H2 x2 s2 p2 => qh σ G2 H2 s2 _ fun u' G3 H3 x3 s3 p3 => ?_
  subst p1; subst p2; subst p3
  obtain ⟨a', xs, rfl, hq, hl, r⟩ := (r1.mono (x2.trans x3).g).lst'
  refine ⟨a', xs, rfl, SqL.of (s3.ex _ _ hq), fun p np => ?_⟩
  obtain ⟨s4, x4⟩ := s3.laid (o := .lst (cutV xs o' u')) np
  exact k _ _ _ _ (((x1.trans x2).trans x3).trans x4) s4 (.lst upd_same (Nat.le_trans (cutD_length l o' u') hl) ((r.cut o' u').mono x4.g)) rfl

/-! sums of lists and tuples -/
theorem ev_catTP (ha : EvE I c a ds PA) (hb : EvE I c b ds PB) (h : ∀ x y, PA x → PB y → ∃ l m, x = .tuple l ∧ y = .tuple m ∧ l.length + m.length ≤ Lm ∧ P (.tuple (l ++ m))) : EvE I c (.BinOp a .Add b pos) ds P :=
  ev_op (r := rCatA I.K) (fun X F => by have := op_catA (X := X); rw [F.K] at this; exact this) ha hb fun d e pd pe σ G H x y s rx ry Q k => by
    obtain ⟨l, m, rfl, rfl, hl, hp⟩ := h d e pd pe
    obtain ⟨a1, xs, rfl, h1, l1, r1⟩ := rx.tup'
    obtain ⟨a2, ys, rfl, h2, l2, r2⟩ := ry.tup'
    refine ⟨a1, a2, xs, ys, rfl, rfl, ex_t s.ex h1, ex_t s.ex h2, by rw [r1.length, r2.length]; exact Lm_le hl, fun z => ?_, fun _ z => ?_, fun _ _ p np => ?_⟩
    · have : l = [] := List.eq_nil_of_length_eq_zero (by rw [← r1.length, z]; rfl)
      subst this; exact k.now s ry hp
    · have : m = [] := List.eq_nil_of_length_eq_zero (by rw [← r2.length, z]; rfl)
      subst this; rw [List.append_nil] at hp; exact k.now s rx hp
    · obtain ⟨s4, x4⟩ := s.laid (o := .tup (xs ++ ys)) np
      exact k _ _ _ _ x4 s4 (.tup (SqT.of upd_same) (by rw [List.length_append]; exact hl) ((r1.append r2).mono x4.g)) hp
theorem ev_catT {l m : List D} (ha : EvE I c a ds (· = .tuple l)) (hb : EvE I c b ds (· = .tuple m)) (hl : l.length + m.length ≤ Lm) : EvE I c (.BinOp a .Add b pos) ds (· = .tuple (l ++ m)) :=
  ev_catTP ha hb fun x y hx hy => ⟨l, m, hx, hy, hl, rfl⟩
theorem ev_catL {l m : List D} (ha : EvE I c a ds (· = .list l)) (hb : EvE I c b ds (· = .list m)) (hl : l.length + m.length ≤ Lm) : EvE I c (.BinOp a .Add b pos) ds (· = .list (l ++ m)) :=
  ev_op (r := rCat) (fun X F => op_cat) ha hb fun d e pd pe σ G H x y s rx ry Q k => by
    subst pd; subst pe
    obtain ⟨a1, xs, rfl, h1, l1, r1⟩ := rx.lst'
    obtain ⟨a2, ys, rfl, h2, l2, r2⟩ := ry.lst'
    refine ⟨a1, a2, xs, ys, rfl, rfl, s.ex _ _ h1, s.ex _ _ h2, by rw [r1.length, r2.length]; exact Lm_le hl, fun p np => ?_⟩
    obtain ⟨s4, x4⟩ := s.laid (o := .lst (xs ++ ys)) np
    exact k _ _ _ _ x4 s4 (.lst upd_same (by rw [List.length_append]; exact hl) ((r1.append r2).mono x4.g)) rfl
theorem RpA.rep {K : Frag} {G : Hp} {l : List D} {vs : List V} (r : RpA K G l vs) : ∀ n : Nat, RpA K G (List.replicate n l).flatten (List.replicate n vs).flatten
  | 0 => RpA.nil
  | n + 1 => by rw [List.replicate_succ, List.replicate_succ, List.flatten_cons, List.flatten_cons]; exact r.append (RpA.rep r n)
theorem ev_repL {l : List D} {n : Int} (ha : EvE I c a ds (· = .list l)) (hb : EvE I c b ds (· = .int n)) (h1 : -(2 ^ 63) ≤ n) (h2 : n < 2 ^ 63) (hl : l.length * n.toNat ≤ Lm) : EvE I c (.BinOp a .Mult b pos) ds (· = .list (List.replicate n.toNat l).flatten) :=
  ev_op (r := rRep) (fun X F => op_rep) ha hb fun d e pd pe σ G H x y s rx ry Q k => by
    subst pd; subst pe
    obtain ⟨a1, xs, rfl, h3, l1, r1⟩ := rx.lst'
    rw [ry.int']
    have e : ((List.replicate n.toNat l).flatten).length = l.length * n.toNat := by simp [List.length_flatten, List.map_replicate, List.sum_replicate_nat, Nat.mul_comm]
    refine ⟨a1, n, xs, rfl, rfl, s.ex _ _ h3, h1, h2, by rw [r1.length]; exact Lm_le hl, fun p np => ?_⟩
    obtain ⟨s4, x4⟩ := s.laid (o := .lst (List.replicate n.toNat xs).flatten) np
    exact k _ _ _ _ x4 s4 (.lst upd_same (by rw [e]; exact hl) ((r1.rep _).mono x4.g)) rfl

/-! built-in calls -/
/-- a built-in function of one argument -/
theorem ev_callB {id : String} {x : Str} {p : Pos} {R : List D → Prop} {r : List V → Hp → VK → Prop} (hc : ∀ X, Fits I X → CallR X (.builtin id) r) (hg : I.sc.names.lookup x = some .globalImplicit) (hm : I.mg x = none) (hv : bootBuiltins x = some (.builtin id))
    (ha : EvA I c (e :: es) ds R) (h : ∀ l, R l → ∀ σ G H vs, S I c G H σ ds → RpA I.K G l vs → ∀ Q : VK, Kv I c G H σ ds P Q → r vs H Q) (hn : x ≠ "__name__" := by decide) (hdb : (x == ("__debug__" : Str)) = false := by decide)
    (he : ∀ X, Fits I X → starEach (e :: es) X.env = (false, eval e X.env) :: starEach es X.env := by intros; rfl) (hpl : ∀ X, Fits I X → (backTo pos (starEach es X.env)).any (·.1) = false := by intros; rfl) : EvE I c (.Call (.Name x p) (e :: es) [] pos) ds P :=
  fun X F σ G H s Q k => w_pe (pe_callB (hc X F) (by show X.env.scope.names.lookup x = _; rw [F.sc]; exact hg) (by rw [F.mg]; exact hm) hv pa_w hn hdb (he X F) (hpl X F))
    (ha X F σ G H s _ fun vs G1 H1 l x1 s1 r1 p1 => h l p1 σ G1 H1 vs s1 r1 Q (k.mono x1))
theorem ev_callTy {T : String} {x : Str} {p : Pos} {R : List D → Prop} {r : List V → Hp → VK → Prop} (hc : ∀ X, Fits I X → CallR X (.type T) r) (hg : I.sc.names.lookup x = some .globalImplicit) (hm : I.mg x = none) (hv : bootBuiltins x = some (.type T))
    (ha : EvA I c (e :: es) ds R) (h : ∀ l, R l → ∀ σ G H vs, S I c G H σ ds → RpA I.K G l vs → ∀ Q : VK, Kv I c G H σ ds P Q → r vs H Q) (hn : x ≠ "__name__" := by decide) (hdb : (x == ("__debug__" : Str)) = false := by decide)
    (he : ∀ X, Fits I X → starEach (e :: es) X.env = (false, eval e X.env) :: starEach es X.env := by intros; rfl) (hpl : ∀ X, Fits I X → (backTo pos (starEach es X.env)).any (·.1) = false := by intros; rfl) : EvE I c (.Call (.Name x p) (e :: es) [] pos) ds P :=
  fun X F σ G H s Q k => w_pe (pe_callTy (hc X F) (by show X.env.scope.names.lookup x = _; rw [F.sc]; exact hg) (by rw [F.mg]; exact hm) hv pa_w hn hdb (he X F) (hpl X F))
    (ha X F σ G H s _ fun vs G1 H1 l x1 s1 r1 p1 => h l p1 σ G1 H1 vs s1 r1 Q (k.mono x1))
section
variable {p : Pos} {x : Str}
theorem rpa1 {K : Frag} {G : Hp} {d : D} {vs : List V} (r : RpA K G [d] vs) : ∃ v, vs = [v] ∧ Rp K G d v := by
  obtain ⟨v, ws, rfl, h1, h2⟩ := r.inv
  unfold RpA at h2; subst h2; exact ⟨v, rfl, h1⟩
theorem rpa2 {K : Frag} {G : Hp} {d e : D} {vs : List V} (r : RpA K G [d, e] vs) : ∃ v u, vs = [v, u] ∧ Rp K G d v ∧ Rp K G e u := by
  obtain ⟨v, ws, rfl, h1, h2⟩ := r.inv
  obtain ⟨u, rfl, h3⟩ := rpa1 h2; exact ⟨v, u, rfl, h1, h3⟩
theorem ea_1 (h : EvE I c e ds P) (hs : ∀ X, Fits I X → starEach [e] X.env = (false, eval e X.env) :: starEach [] X.env := by intros; rfl) : EvA I c [e] ds (fun l => ∃ d, l = [d] ∧ P d) :=
  ea_consP h ea_nil (fun d l h1 h2 => ⟨d, by rw [h2], h1⟩) hs
/-- len -/
theorem ev_lenP (hg : I.sc.names.lookup ("len" : Str) = some .globalImplicit) (hm : I.mg "len" = none) (ha : EvE I c e ds PA) (h : ∀ x, PA x → ∃ l, (x = .list l ∨ x = .tuple l) ∧ P (.int (l.length : Nat)))
    (hs : ∀ X, Fits I X → starEach [e] X.env = (false, eval e X.env) :: starEach [] X.env := by intros; rfl) : EvE I c (.Call (.Name "len" p) [e] [] pos) ds P :=
  ev_callB (r := fun xs H Q => ∃ x n, xs = [x] ∧ LenV I.K x H n ∧ Q (.int n) H) (fun X F => by have := call_len (X := X); rw [F.K] at this; exact this) hg hm PySem.boot_len (ea_1 ha hs) (he := hs) (fun l ⟨d, hl, hd⟩ σ G H vs s r Q k => by
    subst hl
    obtain ⟨v, rfl, r1⟩ := rpa1 r
    obtain ⟨l, hx, hp⟩ := h d hd
    rcases hx with rfl | rfl
    · obtain ⟨a, xs, rfl, h1, h2, h3⟩ := r1.lst'
      exact ⟨_, l.length, rfl, .inl ⟨xs, SqL.of (s.ex _ _ h1), h3.length.symm⟩, k.now s .int hp⟩
    · obtain ⟨a, xs, rfl, h1, h2, h3⟩ := r1.tup'
      exact ⟨_, l.length, rfl, .inr ⟨xs, ex_t s.ex h1, h3.length.symm⟩, k.now s .int hp⟩)
theorem ev_lenL {l : List D} (hg : I.sc.names.lookup ("len" : Str) = some .globalImplicit) (hm : I.mg "len" = none) (ha : EvE I c e ds (· = .list l)) (hs : ∀ X, Fits I X → starEach [e] X.env = (false, eval e X.env) :: starEach [] X.env := by intros; rfl) :
    EvE I c (.Call (.Name "len" p) [e] [] pos) ds (· = .int (l.length : Nat)) := ev_lenP hg hm ha (fun x hx => ⟨l, .inl hx, rfl⟩) hs
theorem ev_lenT {l : List D} (hg : I.sc.names.lookup ("len" : Str) = some .globalImplicit) (hm : I.mg "len" = none) (ha : EvE I c e ds (· = .tuple l)) (hs : ∀ X, Fits I X → starEach [e] X.env = (false, eval e X.env) :: starEach [] X.env := by intros; rfl) :
    EvE I c (.Call (.Name "len" p) [e] [] pos) ds (· = .int (l.length : Nat)) := ev_lenP hg hm ha (fun x hx => ⟨l, .inr hx, rfl⟩) hs
/-- tuple(..), list(..) of a list or a tuple -/
theorem ev_tupleP (hg : I.sc.names.lookup ("tuple" : Str) = some .globalImplicit) (hm : I.mg "tuple" = none) (ha : EvE I c e ds PA) (h : ∀ x, PA x → ∃ l, (x = .list l ∨ x = .tuple l) ∧ P (.tuple l))
    (hs : ∀ X, Fits I X → starEach [e] X.env = (false, eval e X.env) :: starEach [] X.env := by intros; rfl) : EvE I c (.Call (.Name "tuple" p) [e] [] pos) ds P :=
  ev_callTy (T := "tuple") (r := fun xs H Q => ∃ p ys, xs = [.ref p] ∧ ((SqL I.K H p ys ∧ ∀ l, H l = none → Q (.ref l) (upd H l (.tup ys))) ∨ (SqT I.K H p ys ∧ Q (.ref p) H))) (fun X F => by have := call_tuple_of (X := X); rw [F.K] at this; exact this) hg hm (by decide +kernel) (ea_1 ha hs) (he := hs) (fun l ⟨d, hl, hd⟩ σ G H vs s r Q k => by
    subst hl
    obtain ⟨v, rfl, r1⟩ := rpa1 r
    obtain ⟨l, hx, hp⟩ := h d hd
    rcases hx with rfl | rfl
    · obtain ⟨a, xs, rfl, h1, h2, h3⟩ := r1.lst'
      refine ⟨_, xs, rfl, .inl ⟨SqL.of (s.ex _ _ h1), fun p np => ?_⟩⟩
      obtain ⟨s4, x4⟩ := s.laid (o := .tup xs) np
      exact k _ _ _ _ x4 s4 (.tup (SqT.of upd_same) h2 (h3.mono x4.g)) hp
    · obtain ⟨a, xs, rfl, h1, h2, h3⟩ := id r1.tup'
      exact ⟨_, xs, rfl, .inr ⟨ex_t s.ex h1, k.now s r1 hp⟩⟩)
theorem ev_tupleL {l : List D} (hg : I.sc.names.lookup ("tuple" : Str) = some .globalImplicit) (hm : I.mg "tuple" = none) (ha : EvE I c e ds (· = .list l)) (hs : ∀ X, Fits I X → starEach [e] X.env = (false, eval e X.env) :: starEach [] X.env := by intros; rfl) :
    EvE I c (.Call (.Name "tuple" p) [e] [] pos) ds (· = .tuple l) := ev_tupleP hg hm ha (fun x hx => ⟨l, .inl hx, rfl⟩) hs
theorem ev_listP (hg : I.sc.names.lookup ("list" : Str) = some .globalImplicit) (hm : I.mg "list" = none) (ha : EvE I c e ds PA) (h : ∀ x, PA x → ∃ l, (x = .list l ∨ x = .tuple l) ∧ P (.list l))
    (hs : ∀ X, Fits I X → starEach [e] X.env = (false, eval e X.env) :: starEach [] X.env := by intros; rfl) : EvE I c (.Call (.Name "list" p) [e] [] pos) ds P :=
  ev_callTy (T := "list") (r := fun xs H Q => ∃ p ys, xs = [.ref p] ∧ (SqL I.K H p ys ∨ SqT I.K H p ys) ∧ ∀ l, H l = none → Q (.ref l) (upd H l (.lst ys))) (fun X F => by have := call_list_of (X := X); rw [F.K] at this; exact this) hg hm (by decide +kernel) (ea_1 ha hs) (he := hs) (fun l ⟨d, hl, hd⟩ σ G H vs s r Q k => by
    subst hl
    obtain ⟨v, rfl, r1⟩ := rpa1 r
    obtain ⟨l, hx, hp⟩ := h d hd
    rcases hx with rfl | rfl
    · obtain ⟨a, xs, rfl, h1, h2, h3⟩ := r1.lst'
      refine ⟨_, xs, rfl, .inl (SqL.of (s.ex _ _ h1)), fun p np => ?_⟩
      obtain ⟨s4, x4⟩ := s.laid (o := .lst xs) np
      exact k _ _ _ _ x4 s4 (.lst upd_same h2 (h3.mono x4.g)) hp
    · obtain ⟨a, xs, rfl, h1, h2, h3⟩ := r1.tup'
      refine ⟨_, xs, rfl, .inr (ex_t s.ex h1), fun p np => ?_⟩
      obtain ⟨s4, x4⟩ := s.laid (o := .lst xs) np
      exact k _ _ _ _ x4 s4 (.lst upd_same h2 (h3.mono x4.g)) hp)
theorem ev_listT {l : List D} (hg : I.sc.names.lookup ("list" : Str) = some .globalImplicit) (hm : I.mg "list" = none) (ha : EvE I c e ds (· = .tuple l)) (hs : ∀ X, Fits I X → starEach [e] X.env = (false, eval e X.env) :: starEach [] X.env := by intros; rfl) :
    EvE I c (.Call (.Name "list" p) [e] [] pos) ds (· = .list l) := ev_listP hg hm ha (fun x hx => ⟨l, .inr hx, rfl⟩) hs
theorem ev_listL {l : List D} (hg : I.sc.names.lookup ("list" : Str) = some .globalImplicit) (hm : I.mg "list" = none) (ha : EvE I c e ds (· = .list l)) (hs : ∀ X, Fits I X → starEach [e] X.env = (false, eval e X.env) :: starEach [] X.env := by intros; rfl) :
    EvE I c (.Call (.Name "list" p) [e] [] pos) ds (· = .list l) := ev_listP hg hm ha (fun x hx => ⟨l, .inl hx, rfl⟩) hs
/-- sum of ints; abs; int; all of bools -/
theorem ev_sum {ns : List Int} (hg : I.sc.names.lookup ("sum" : Str) = some .globalImplicit) (hm : I.mg "sum" = none) (ha : EvE I c e ds (· = .list (ns.map PyData.int))) (hs : ∀ X, Fits I X → starEach [e] X.env = (false, eval e X.env) :: starEach [] X.env := by intros; rfl) :
    EvE I c (.Call (.Name "sum" p) [e] [] pos) ds (· = .int ns.sum) :=
  ev_callB (id := "sum") (r := rSum I.K) (fun X F => by have := cr_sum (X := X) F.calm; rw [F.K] at this; exact this) hg hm (by decide +kernel) (ea_1 ha hs) (he := hs) (fun l ⟨d, hl, hd⟩ σ G H vs s r Q k => by
    subst hl; subst hd
    obtain ⟨v, rfl, r1⟩ := rpa1 r
    obtain ⟨a, xs, rfl, h1, h2, h3⟩ := r1.lst'
    rw [RpA.ints] at h3; subst h3
    exact ⟨a, ns, rfl, SqL.of (s.ex _ _ h1), k.now s .int rfl⟩)
theorem ev_all {bs : List Bool} (hg : I.sc.names.lookup ("all" : Str) = some .globalImplicit) (hm : I.mg "all" = none) (ha : EvE I c e ds (· = .list (bs.map PyData.bool))) (hs : ∀ X, Fits I X → starEach [e] X.env = (false, eval e X.env) :: starEach [] X.env := by intros; rfl) :
    EvE I c (.Call (.Name "all" p) [e] [] pos) ds (· = .bool (bs.all id)) :=
  ev_callB (id := "all") (r := rAll I.K) (fun X F => by have := cr_all (X := X) F.calm; rw [F.K] at this; exact this) hg hm (by decide +kernel) (ea_1 ha hs) (he := hs) (fun l ⟨d, hl, hd⟩ σ G H vs s r Q k => by
    subst hl; subst hd
    obtain ⟨v, rfl, r1⟩ := rpa1 r
    obtain ⟨a, xs, rfl, h1, h2, h3⟩ := r1.lst'
    rw [RpA.bools] at h3; subst h3
    exact ⟨a, bs, rfl, SqL.of (s.ex _ _ h1), k.now s .bl rfl⟩)
theorem ev_abs {i : Int} (hg : I.sc.names.lookup ("abs" : Str) = some .globalImplicit) (hm : I.mg "abs" = none) (ha : EvE I c e ds (· = .int i)) (hs : ∀ X, Fits I X → starEach [e] X.env = (false, eval e X.env) :: starEach [] X.env := by intros; rfl) :
    EvE I c (.Call (.Name "abs" p) [e] [] pos) ds (· = .int i.natAbs) :=
  ev_callB (id := "abs") (fun X F => call_abs) hg hm (by decide +kernel) (ea_1 ha hs) (he := hs) (fun l ⟨d, hl, hd⟩ σ G H vs s r Q k => by
    subst hl; subst hd
    obtain ⟨v, rfl, r1⟩ := rpa1 r
    rw [r1.int']
    exact ⟨i, rfl, k.now s .int (by congr 1; split <;> omega)⟩)
theorem ev_intB {b : Bool} (hg : I.sc.names.lookup ("int" : Str) = some .globalImplicit) (hm : I.mg "int" = none) (ha : EvE I c e ds (· = .bool b)) (hs : ∀ X, Fits I X → starEach [e] X.env = (false, eval e X.env) :: starEach [] X.env := by intros; rfl) :
    EvE I c (.Call (.Name "int" p) [e] [] pos) ds (· = .int (if b then 1 else 0)) :=
  ev_callTy (T := "int") (fun X F => call_int1) hg hm (by decide +kernel) (ea_1 ha hs) (he := hs) (fun l ⟨d, hl, hd⟩ σ G H vs s r Q k => by
    subst hl; subst hd
    obtain ⟨v, rfl, r1⟩ := rpa1 r
    rw [r1.bl']
    exact .inr ⟨b, rfl, k.now s .int rfl⟩)
theorem ev_intIP {q : Int → Prop} (hg : I.sc.names.lookup ("int" : Str) = some .globalImplicit) (hm : I.mg "int" = none) (ha : EvE I c e ds (IsI q)) (hs : ∀ X, Fits I X → starEach [e] X.env = (false, eval e X.env) :: starEach [] X.env := by intros; rfl) :
    EvE I c (.Call (.Name "int" p) [e] [] pos) ds (IsI q) :=
  ev_callTy (T := "int") (fun X F => call_int1) hg hm (by decide +kernel) (ea_1 ha hs) (he := hs) (fun l ⟨d, hl, hd⟩ σ G H vs s r Q k => by
    subst hl
    obtain ⟨i, rfl, hi⟩ := hd
    obtain ⟨v, rfl, r1⟩ := rpa1 r
    rw [r1.int']
    exact .inl ⟨i, rfl, k.now s .int ⟨i, rfl, hi⟩⟩)
end
end
end Dl


set_option Elab.async false
set_option linter.all false
namespace Dl
open PySem L2

/-! ### what follows a statement -/
structure After where
  nx : List SD → Prop
  rt : D → Prop
  ro : List D → Prop := fun _ => False
  bk : List SD → Prop := fun _ => False
  ct : List SD → Prop := fun _ => False
  r3 : D → D → List D → Prop := fun _ _ _ => False

structure Holds (I : Inf) (c : Ct) (G : Hp) (A : After) (E : Ends) : Prop where
  nx : ∀ σ' G' H' ds', Ex G G' → S I c G' H' σ' ds' → A.nx ds' → E.nx σ' H'
  bk : ∀ σ' G' H' ds', Ex G G' → S I c G' H' σ' ds' → A.bk ds' → E.bk σ' H'
  ct : ∀ σ' G' H' ds', Ex G G' → S I c G' H' σ' ds' → A.ct ds' → E.ct σ' H'
  rt : ∀ v G' H' d, S I c G' H' [] [] → Rp I.K G' d v → A.rt d → E.rt v H'
  ro : ∀ p xs G' H' l, S I c G' H' [] [] → c.H0 p = none → G' p = none → ¬ inDeck c.Z p → l.length ≤ Lm → H' p = some (.lst xs) → RpA I.K G' l xs → A.ro l → E.rt (.ref p) H'
  r3 : ∀ t b xs v1 v2 G' H' d1 d2 l, S I c G' H' [] [] → c.H0 b = none → G' b = none → ¬ inDeck c.Z b → l.length ≤ Lm → H' b = some (.lst xs) → RpA I.K G' l xs → H' t = some (.tup [v1, v2, .ref b]) → Rp I.K G' d1 v1 → Rp I.K G' d2 v2 → A.r3 d1 d2 l → E.rt (.ref t) H'
theorem Holds.mono {I : Inf} {c : Ct} {G G1 : Hp} {A : After} {E : Ends} (h : Holds I c G A E) (x : Ex G G1) : Holds I c G1 A E :=
  ⟨fun σ' G' H' ds' e => h.nx σ' G' H' ds' (x.trans e), fun σ' G' H' ds' e => h.bk σ' G' H' ds' (x.trans e), fun σ' G' H' ds' e => h.ct σ' G' H' ds' (x.trans e), h.rt, h.ro, h.r3⟩

def RunW (I : Inf) (c : Ct) (W : Cx → TS) (ds : List SD) (A : After) : Prop := ∀ X, Fits I X → ∀ σ G H E, S I c G H σ ds → Holds I c G A E → W X E σ H
def Run (I : Inf) (c : Ct) (ss : List Stmt) (ds : List SD) (A : After) : Prop := RunW I c (fun X => wSs X ss) ds A
def RunS (I : Inf) (c : Ct) (st : Stmt) (ds : List SD) (A : After) : Prop := RunW I c (fun X => wS X st) ds A

section
variable {I : Inf} {c : Ct} {ds : List SD} {A : After} {st : Stmt} {rest : List Stmt} {e : Expr} {P : D → Prop} {pos : Pos} {d : D}
theorem run_nil (h : A.nx ds) : Run I c [] ds A := fun X F σ G H E s k => w_pss pss_nil (k.nx σ G H ds (Ex.refl G) s h)
theorem run_cons {Mid : List SD → Prop} (h1 : RunS I c st ds { A with nx := Mid }) (h2 : ∀ ds', Mid ds' → Run I c rest ds' A) : Run I c (st :: rest) ds A := fun X F σ G H E s k =>
  w_pss (pss_cons ps_w pss_w) (h1 X F σ G H { E with nx := wSs X rest E } s ⟨fun σ' G' H' ds' e s' m => h2 ds' m X F σ' G' H' E s' (k.mono e), k.bk, k.ct, k.rt, k.ro, k.r3⟩)
theorem run_one (h1 : RunS I c st ds A) : Run I c [st] ds A := fun X F σ G H E s k => w_pss (pss_one ps_w) (h1 X F σ G H E s k)
/-- a statement behind which one state is known -/
theorem run_to {ds1 : List SD} (h1 : RunS I c st ds { A with nx := (· = ds1) }) (h2 : Run I c rest ds1 A) : Run I c (st :: rest) ds A := run_cons h1 fun ds' e => by rw [e]; exact h2
theorem RunW.imp {W : Cx → TS} {A' : After} (h : RunW I c W ds A) (n : ∀ x, A.nx x → A'.nx x) (r : ∀ x, A.rt x → A'.rt x) (o : ∀ x, A.ro x → A'.ro x) (b : ∀ x, A.bk x → A'.bk x) (t : ∀ x, A.ct x → A'.ct x) (u : ∀ x y z, A.r3 x y z → A'.r3 x y z) : RunW I c W ds A' :=
  fun X F σ G H E s k => h X F σ G H E s ⟨fun σ' G' H' ds' e s' m => k.nx σ' G' H' ds' e s' (n _ m), fun σ' G' H' ds' e s' m => k.bk σ' G' H' ds' e s' (b _ m), fun σ' G' H' ds' e s' m => k.ct σ' G' H' ds' e s' (t _ m),
    fun v G' H' d s' r' m => k.rt v G' H' d s' r' (r _ m), fun p xs G' H' l s' a1 a2 a3 a4 a5 a6 m => k.ro p xs G' H' l s' a1 a2 a3 a4 a5 a6 (o _ m), fun t b xs v1 v2 G' H' d1 d2 l s' a1 a2 a3 a4 a5 a6 a7 a8 a9 m => k.r3 t b xs v1 v2 G' H' d1 d2 l s' a1 a2 a3 a4 a5 a6 a7 a8 a9 (u _ _ _ m)⟩

/-- the name in slot i is stored to -/
structure Sto (I : Inf) (i : Nat) (x : Str) : Prop where
  at_ : I.N[i]? = some x
  loc : Loc I.sc x
  cel : I.fnc x = true ∨ I.sc.names.lookup x = some .local
theorem Sto.fn {i : Nat} {x : Str} (h : Sto I i x) {X : Cx} (F : Fits I X) : X.fn x = true ∨ X.env.scope.names.lookup x = some .local := by
  rcases h.cel with k | k
  · left; exact F.fn x k
  · right; rw [F.sc]; exact k

theorem rs_setP {i : Nat} {x : Str} {p : Pos} (hx : Sto I i x) (h : EvE I c e ds P) (hn : ∀ d, P d → A.nx (ds.set i (.dat d)))
    (hs : ∀ X, Fits I X → swapsWith e (some (.Name x p)) pos.line X.env = pure false := by intros; rfl) : RunS I c (.Assign [.Name x p] e pos) ds A := fun X F σ G H E s k =>
  w_ps (ps_set (i := i) (by rw [F.N]; exact F.nd) (by rw [F.N]; exact hx.at_) (by rw [F.sc]; exact hx.loc) pe_w (hs X F) (hx.fn F)) (h X F σ G H s _ fun v G1 H1 d x1 s1 r1 p1 =>
    k.nx _ G1 H1 _ x1.g (s1.set (i := i) (sd := .dat d) rfl ⟨v, rfl, r1⟩) (hn d p1))
theorem rs_set {i : Nat} {x : Str} {p : Pos} (hx : Sto I i x) (h : EvE I c e ds (· = d)) 
    (hs : ∀ X, Fits I X → swapsWith e (some (.Name x p)) pos.line X.env = pure false := by intros; rfl) : RunS I c (.Assign [.Name x p] e pos) ds { A with nx := (· = ds.set i (.dat d)) } :=
  rs_setP hx h (fun d' e => by rw [e]) hs

theorem rs_if {t : Expr} {a b : List Stmt} {PT : Bool → Prop} (h : EvT I c t ds PT) (h1 : PT true → Run I c a ds A) (h2 : PT false → Run I c b ds A) : RunS I c (.If t a b pos) ds A := fun X F σ G H E s k =>
  w_ps (ps_if pt_w pss_w pss_w) (h X F σ G H s _ fun b' G1 H1 x1 s1 p1 => by
    cases b' with
    | true => exact iteT (h1 p1 X F σ G1 H1 E s1 (k.mono x1.g))
    | false => exact iteF (h2 p1 X F σ G1 H1 E s1 (k.mono x1.g)))
theorem rs_retP (h : EvE I c e ds P) (hr : ∀ d, P d → A.rt d) : RunS I c (.Return (some e) pos) ds A := fun X F σ G H E s k =>
  w_ps (ps_ret pe_w) (h X F σ G H s _ fun v G1 H1 d x1 s1 r1 p1 => k.rt v G1 H1 d s1.drop r1 (hr d p1))
theorem rs_ret (h : EvE I c e ds (· = d)) (hr : A.rt d) : RunS I c (.Return (some e) pos) ds A := rs_retP h fun d' e => by rw [e]; exact hr
theorem rs_pass (h : A.nx ds) : RunS I c (.Pass pos) ds A := fun X F σ G H E s k => w_ps ps_pass (k.nx σ G H ds (Ex.refl G) s h)
theorem rs_continue (h : A.ct ds) : RunS I c (.Continue pos) ds A := fun X F σ G H E s k => w_ps ps_continue (k.ct σ G H ds (Ex.refl G) s h)
theorem rs_break (h : A.bk ds) : RunS I c (.Break pos) ds A := fun X F σ G H E s k => w_ps ps_break (k.bk σ G H ds (Ex.refl G) s h)

/-! owned lists -/
theorem own_at {σ : St} {G H : Hp} {i : Nat} {l : List D} (s : S I c G H σ ds) (h : ds[i]? = some (.own l)) : ∃ p xs, σ[i]? = some (some (.ref p)) ∧ (c.H0 p = none ∨ c.Z.given = some p) ∧ G p = none ∧ ¬ inDeck c.Z p ∧ l.length ≤ Lm ∧ H p = some (.lst xs) ∧ RpA I.K G l xs := by
  obtain ⟨p, xs, e1, q⟩ := s.slots i _ h
  refine ⟨p, xs, ?_, q⟩
  cases z : σ[i]? with
  | none => rw [z] at e1; cases e1
  | some o => rw [z] at e1; simpa using e1
/-- an owned list changed -/
theorem own_put {σ : St} {G H : Hp} {i : Nat} {l l' : List D} {p : Addr} {xs : List V} (s : S I c G H σ ds) (h : ds[i]? = some (.own l)) (hp : σ[i]? = some (some (.ref p))) (r : RpA I.K G l' xs) (hl : l'.length ≤ Lm) :
    S I c G (upd H p (.lst xs)) σ (ds.set i (.own l')) := by
  obtain ⟨p', xs0, e1, h0, h1, h2, h3, h4, h5⟩ := own_at s h
  rw [hp] at e1
  simp only [Option.some.injEq, V.ref.injEq] at e1
  subst e1
  have hi : i < ds.length := (List.getElem?_eq_some_iff.mp h).1
  refine ⟨s.ex.mut h1, s.exg, s.nw, fun a u q1 q2 => ?_, ?_, by simp [s.len], fun q hq z => ?_, fun j sd hj => ?_, fun j k d1 d2 q hjk g1 g2 g3 => ?_⟩
  · have : a ≠ p := by
      rintro rfl
      rcases h0 with h0 | h0
      · rw [h0] at q1; cases q1
      · exact q2 (.inr h0)
    rw [upd_ne this]; exact s.exm a u q1 q2
  · have hk := s.deck
    unfold DeckIn at *
    unfold inDeck at h2
    split
    · trivial
    · rename_i dk cc hq
      rw [hq] at hk h2
      obtain ⟨d1, d2, d3, cells, mixed, draws, b1, b2, b3, b4, k1, k2⟩ := hk
      have n1 : dk ≠ p := fun e => h2 (.inl e.symm)
      have n2 : cc ≠ p := fun e => h2 (.inr e.symm)
      exact ⟨d1, d2, d3, cells, mixed, draws, b1, b2, b3, b4, by rw [upd_ne n1]; exact k1, by rw [upd_ne n2]; exact k2⟩
  · by_cases e : q = p
    · rw [e, upd_same] at z; cases z
    · rw [upd_ne e] at z; exact s.giv q hq z
  · by_cases e : j = i
    · subst e
      rw [List.getElem?_set_self hi] at hj; cases hj
      exact ⟨p, xs, by rw [hp]; rfl, h0, h1, h2, hl, upd_same, r⟩
    · rw [List.getElem?_set_ne (Ne.symm e)] at hj
      have q := s.slots j sd hj
      cases sd with
      | un => trivial
      | dat d => exact q
      | own m =>
        obtain ⟨p2, ys, f1, f2, f3, f4, f5, f6, f7⟩ := own_at s hj
        refine ⟨p2, ys, by rw [f1]; rfl, f2, f3, f4, f5, ?_, f7⟩
        have : p2 ≠ p := by
          rintro rfl
          exact s.dist i j l m p2 (Ne.symm e) h hj hp f1
        rw [upd_ne this]; exact f6
      | deck => exact q
      | raw v => exact q
  · have g : ∀ {j : Nat} {d1 : List D}, (ds.set i (.own l'))[j]? = some (.own d1) → ∃ d2, ds[j]? = some (.own d2) := by
      intro j d1 g
      by_cases e : j = i
      · subst e; exact ⟨l, h⟩
      · rw [List.getElem?_set_ne (Ne.symm e)] at g; exact ⟨d1, g⟩
    obtain ⟨a1, b1⟩ := g g1
    obtain ⟨a2, b2⟩ := g g2
    exact s.dist j k a1 a2 q hjk b1 b2 g3
/-- an owned list becomes data -/
theorem own_know {σ : St} {G H : Hp} {i : Nat} {l : List D} {p : Addr} (s : S I c G H σ ds) (h : ds[i]? = some (.own l)) (hp : σ[i]? = some (some (.ref p))) :
    ∃ xs, S I c (upd G p (.lst xs)) H σ (ds.set i (.dat (.list l))) ∧ Ex G (upd G p (.lst xs)) ∧ Rp I.K (upd G p (.lst xs)) (.list l) (.ref p) := by
  obtain ⟨p', xs, e1, h0, h1, h2, h3, h4, h5⟩ := own_at s h
  rw [hp] at e1
  simp only [Option.some.injEq, V.ref.injEq] at e1
  subst e1
  have hi : i < ds.length := (List.getElem?_eq_some_iff.mp h).1
  have s1 : S I c G H σ (ds.set i .un) := s.forget
  have no : NoOwn σ (ds.set i .un) p := by
    intro j m hj e
    by_cases z : j = i
    · subst z; rw [List.getElem?_set_self hi] at hj; cases hj
    · rw [List.getElem?_set_ne (Ne.symm z)] at hj
      exact s.dist i j l m p (Ne.symm z) h hj hp e
  have s2 : S I c (upd G p (.lst xs)) H σ (ds.set i .un) := State.know s1 h4 h1 h2 h0 no
  have r : Rp I.K (upd G p (.lst xs)) (.list l) (.ref p) := .lst upd_same h3 (h5.mono (Ex.new h1))
  refine ⟨xs, ?_, Ex.new h1, r⟩
  have s3 := State.set s2 (i := i) (v := .ref p) (sd := .dat (.list l)) rfl ⟨_, rfl, r⟩
  rw [List.set_set] at s3
  have : σ.set i (some (.ref p)) = σ := by
    apply List.ext_getElem?
    intro j
    by_cases z : i = j
    · subst z
      have : i < σ.length := (List.getElem?_eq_some_iff.mp hp).1
      rw [List.getElem?_set_self this, hp]
    · rw [List.getElem?_set_ne z]
  rw [this] at s3
  exact s3
/-- .. between two statements -/
theorem run_freeze {ss : List Stmt} {i : Nat} {l : List D} (h : ds[i]? = some (.own l)) (hr : Run I c ss (ds.set i (.dat (.list l))) A) : Run I c ss ds A := fun X F σ G H E s k => by
  obtain ⟨p, xs, e1, h0, _⟩ := own_at s h
  obtain ⟨ys, s2, x2, _⟩ := own_know s h e1
  exact hr X F σ _ H E s2 (k.mono x2)
theorem rs_freeze {i : Nat} {l : List D} (h : ds[i]? = some (.own l)) (hr : RunS I c st (ds.set i (.dat (.list l))) A) : RunS I c st ds A := fun X F σ G H E s k => by
  obtain ⟨p, xs, e1, h0, _⟩ := own_at s h
  obtain ⟨ys, s2, x2, _⟩ := own_know s h e1
  exact hr X F σ _ H E s2 (k.mono x2)
/-- return x, x an owned list -/
theorem rs_retO {i : Nat} {x : Str} {p : Pos} {l : List D} (hN : I.N[i]? = some x) (hv : Vis I.sc x) (hz : c.Z.given = none) (h : ds[i]? = some (.own l)) (hr : A.ro l) (h1 : (x == ("__debug__" : Str)) = false := by decide) (h2 : (x == ("__classdict__" : Str)) = false := by decide) :
    RunS I c (.Return (some (.Name x p)) pos) ds A := fun X F σ G H E s k => by
  obtain ⟨q, xs, e1, h0, h3, h4, h5, h6, h7⟩ := own_at s h
  have h0' : c.H0 q = none := by
    rcases h0 with h0 | h0
    · exact h0
    · rw [hz] at h0; cases h0
  exact w_ps (ps_ret (pe_var (i := i) (by rw [F.N]; exact hN) (by rw [F.sc]; exact hv) h1 h2)) ⟨.ref q, e1, k.ro q xs G H l s.drop h0' h3 h4 h5 h6 h7 hr⟩

/-- a fresh list comes -/
def EvF (I : Inf) (c : Ct) (e : Expr) (ds : List SD) (P : List D → Prop) : Prop := ∀ X, Fits I X → ∀ σ G H, S I c G H σ ds → ∀ Q : VK,
  (∀ p xs G' H' l, Gr c.Z G H G' H' → S I c G' H' σ ds → H p = none → G' p = none → ¬ inDeck c.Z p → l.length ≤ Lm → H' p = some (.lst xs) → RpA I.K G' l xs → P l → Q (.ref p) H') → wE X e σ H Q
theorem S.h0none {σ : St} {G H : Hp} (s : S I c G H σ ds) {p : Addr} (h : H p = none) : c.H0 p = none := by
  cases e : c.H0 p with
  | none => rfl
  | some o =>
    by_cases hz : inZ c.Z p
    · rcases hz with hz | hz
      · exact absurd h (s.deck.ne hz).1
      · exact absurd h (s.giv p hz)
    · rw [s.exm p o e hz] at h; cases h
theorem S.ndeck {σ : St} {G H : Hp} (s : S I c G H σ ds) {p : Addr} (h : H p = none) : ¬ inDeck c.Z p := fun z => (s.deck.ne z).1 h
theorem S.gnone {σ : St} {G H : Hp} (s : S I c G H σ ds) {p : Addr} (h : H p = none) : G p = none := by
  cases e : G p with
  | none => rfl
  | some o => rw [s.ex p o e] at h; cases h
/-- a fresh list's slot -/
theorem own_new {σ : St} {G H G' H' : Hp} {i : Nat} {p : Addr} {xs : List V} {l : List D} (s : S I c G H σ ds) (s' : S I c G' H' σ ds) (np : H p = none) (hg : G' p = none) (hl : l.length ≤ Lm) (hh : H' p = some (.lst xs)) (r : RpA I.K G' l xs) :
    S I c G' H' (σ.set i (some (.ref p))) (ds.set i (.own l)) := by
  have no := s.noOwn np
  refine ⟨s'.ex, s'.exg, s'.nw, s'.exm, s'.deck, by simp [s'.len], s'.giv, fun j sd h => ?_, fun j k d1 d2 q hjk g1 g2 g3 => ?_⟩
  · by_cases e : j = i
    · subst e
      have hlt : j < ds.length := by
        rcases Nat.lt_or_ge j ds.length with h0 | h0
        · exact h0
        · rw [List.getElem?_eq_none (by simp; exact h0)] at h; cases h
      rw [List.getElem?_set_self hlt] at h; cases h
      rw [List.getElem?_set_self (by rw [s.len]; exact hlt)]
      exact ⟨p, xs, rfl, .inl (s.h0none np), hg, s.ndeck np, hl, hh, r⟩
    · rw [List.getElem?_set_ne (Ne.symm e)] at *; exact s'.slots j sd h
  · by_cases e1 : j = i
    · subst e1
      have hlt : j < σ.length := by
        rcases Nat.lt_or_ge j σ.length with h0 | h0
        · exact h0
        · rw [List.getElem?_eq_none (by simp; exact h0)] at g3; cases g3
      rw [List.getElem?_set_self hlt] at g3; cases g3
      rw [List.getElem?_set_ne hjk] at *
      exact no k d2 g2
    · rw [List.getElem?_set_ne (Ne.symm e1)] at g1 g3
      by_cases e2 : k = i
      · subst e2
        intro z
        have hlt : k < σ.length := by
          rcases Nat.lt_or_ge k σ.length with h0 | h0
          · exact h0
          · rw [List.getElem?_eq_none (by simp; exact h0)] at z; cases z
        rw [List.getElem?_set_self hlt] at z; cases z
        exact no j d1 g1 g3
      · rw [List.getElem?_set_ne (Ne.symm e2)] at *
        exact s.dist j k d1 d2 q hjk g1 g2 g3
theorem rs_setF {i : Nat} {x : Str} {p : Pos} {PL : List D → Prop} (hx : Sto I i x) (h : EvF I c e ds PL) (hn : ∀ l, PL l → A.nx (ds.set i (.own l)))
    (hs : ∀ X, Fits I X → swapsWith e (some (.Name x p)) pos.line X.env = pure false := by intros; rfl) : RunS I c (.Assign [.Name x p] e pos) ds A := fun X F σ G H E s k =>
  w_ps (ps_set (i := i) (by rw [F.N]; exact F.nd) (by rw [F.N]; exact hx.at_) (by rw [F.sc]; exact hx.loc) pe_w (hs X F) (hx.fn F)) (h X F σ G H s _ fun q xs G1 H1 l x1 s1 np hg hd hl hh r1 p1 =>
    k.nx _ G1 H1 _ x1.g (own_new s s1 np hg hl hh r1) (hn l p1))
theorem ef_lst {es : List Expr} {R : List D → Prop} (h : EvA I c es ds R) (hl : ∀ l, R l → l.length ≤ Lm) : EvF I c (.List es pos) ds R := fun X F σ G H s Q k =>
  w_pe (pe_lst pa_w) (h X F σ G H s _ fun vs G1 H1 l x1 s1 r1 p1 => ⟨by rw [r1.length]; exact Lm_le (hl l p1), fun p np => by
    have hp : H p = none := by
      cases e : H p with
      | none => rfl
      | some o => exact absurd np (x1.dom p (by rw [e]; exact fun z => nomatch z))
    have g1 := S.gnone s1 np
    exact k p vs G1 (upd H1 p (.lst vs)) l ⟨x1.g, fun a o h z => by rw [upd_ne (ne_of_none (x1.h a o h z) np)]; exact x1.h a o h z, x1.nw, fun q hq z => by
        by_cases e : q = p
        · rw [e, upd_same] at z; cases z
        · rw [upd_ne e] at z; exact x1.dom q hq z⟩ (State.aside s1 np) hp g1 (S.ndeck s1 np) (hl l p1) upd_same r1 p1⟩)
/-- a fresh list as data -/
theorem ev_fresh {PL : List D → Prop} (h : EvF I c e ds PL) (hp : ∀ l, PL l → P (.list l)) : EvE I c e ds P := fun X F σ G H s Q k =>
  h X F σ G H s _ fun p xs G1 H1 l x1 s1 np hg hd hl hh r1 p1 => by
    have no := s.noOwn np
    have s2 : S I c (upd G1 p (.lst xs)) H1 σ ds := State.know s1 hh hg hd (.inl (S.h0none s np)) no
    refine k _ (upd G1 p (.lst xs)) H1 (.list l) ⟨x1.g.trans (Ex.new hg), x1.h, fun q hq => ?_, x1.dom⟩ s2 (.lst upd_same hl (r1.mono (Ex.new hg))) (hp l p1)
    by_cases e : q = p
    · right; rw [e]; exact np
    · rw [upd_ne e] at hq; exact x1.nw q hq
end
end Dl


set_option Elab.async false
set_option linter.all false
namespace Dl
open PySem L2
section
variable {I : Inf} {c : Ct} {ds : List SD} {A : After} {st : Stmt} {rest : List Stmt} {e : Expr} {P : D → Prop} {pos : Pos} {d : D}

/-! owned lists: append, a store by place -/
/-- evaluating leaves the owned slots' places -/
theorem own_same {σ : St} {G H G' H' : Hp} {i : Nat} {l : List D} {p : Addr} (s : S I c G H σ ds) (s' : S I c G' H' σ ds) (h : ds[i]? = some (.own l)) (hp : σ[i]? = some (some (.ref p))) :
    ∃ xs, H' p = some (.lst xs) ∧ RpA I.K G' l xs ∧ l.length ≤ Lm := by
  obtain ⟨p', xs, e1, _, _, _, h3, h4, h5⟩ := own_at s' h
  rw [hp] at e1
  simp only [Option.some.injEq, V.ref.injEq] at e1
  subst e1
  exact ⟨xs, h4, h5, h3⟩
theorem rs_append {i : Nat} {x : Str} {l : List D} {p p2 p3 p4 : Pos} (hN : I.N[i]? = some x) (hv : Vis I.sc x) (ho : ds[i]? = some (.own l)) (hl : l.length < Lm) (h : EvE I c e ds P) (hn : ∀ d, P d → A.nx (ds.set i (.own (l ++ [d]))))
    (h1 : (x == ("__debug__" : Str)) = false := by decide) (h2 : (x == ("__classdict__" : Str)) = false := by decide)
    (hsx : ∀ X, Fits I X → starEach [e] X.env = (false, eval e X.env) :: starEach [] X.env := by intros; rfl) (hline : (p2.endLine == p3.line) = true := by rfl)
    (hfew : ∀ X, Fits I X → ((((backTo p3 (starEach [e] X.env)).all fun x => !x.fst) && (backToKw p3 (keywordEach [] X.env)).all fun x => x.fst.isSome) && decide (([e].length + ([] : List Keyword).length + if ([] : List Keyword).isEmpty = true then 0 else 1) < 30)) = true := by intros; rfl) :
    RunS I c (.Expr (.Call (.Attribute (.Name x p) ("append" : Str) p2) [e] [] p3) p4) ds A := fun X F σ G H E s k => by
  have go : PE X (.Call (.Attribute (.Name x p) ("append" : Str) p2) [e] [] p3) _ := pe_bm PySem.F.plainAttrs_list PySem.F.slot_list_append PySem.F.type_list_append mt_append (pe_var (i := i) (by rw [F.N]; exact hN) (by rw [F.sc]; exact hv) h1 h2) (pa_cons (pe_w (e := e)) pa_nil (hsx X F)) (hfew := hfew X F) (hline := hline) (hs := hsx X F)
  refine w_ps (ps_expr go) ?_
  obtain ⟨q, xs, e1, h0, h3, h4, h5, h6, h7⟩ := own_at s ho
  refine ⟨.ref q, e1, .inl ⟨rfl, xs, SqL.of h6⟩, h X F σ G H s _ fun v G1 H1 d x1 s1 r1 p1 => ?_⟩
  obtain ⟨ys, g1, g2, g3⟩ := own_same s s1 ho e1
  refine ⟨q, ys, v, rfl, rfl, g1, by rw [g2.length]; exact Lm_lt (Nat.le_of_lt hl), ?_⟩
  exact k.nx σ G1 _ _ x1.g (own_put s1 ho e1 (g2.append (.cons r1 .nil)) (by rw [List.length_append]; exact hl)) (hn d p1)
theorem rs_setO {i : Nat} {x : Str} {l : List D} {e2 : Expr} {j : Int} {p p2 : Pos} (hN : I.N[i]? = some x) (hv : Vis I.sc x) (ho : ds[i]? = some (.own l)) (h : EvE I c e ds P) (hi : EvE I c e2 ds (· = .int j)) {n : Nat} (hj : ixN l.length j = some n) (hn : ∀ d, P d → A.nx (ds.set i (.own (l.set n d))))
    (h1 : (x == ("__debug__" : Str)) = false := by decide) (h2 : (x == ("__classdict__" : Str)) = false := by decide)
    (ha : ∀ X, Fits I X → ∀ v, assign (.Subscript (.Name x p) e2 p2) X.env v = (do
      let ov ← holding [v] (eval (.Name x p) X.env)
      let iv ← holding [v, ov] (eval e2 X.env)
      standAt p2
      holding [v, ov, iv] (setItem ov iv v)
      release [v, ov, iv] []) := by intros; rfl)
    (hs : ∀ X, Fits I X → swapsWithSole [.Subscript (.Name x p) e2 p2] e pos.line X.env = pure false := by intros; rfl) (hw : ∀ X, Fits I X → swappedStores [.Subscript (.Name x p) e2 p2] e X.env = pure none := by intros; rfl) :
    RunS I c (.Assign [.Subscript (.Name x p) e2 p2] e pos) ds A := fun X F σ G H E s k => by
  refine w_ps (ps_asg pe_w (pg_sub (pe_var (i := i) (by rw [F.N]; exact hN) (by rw [F.sc]; exact hv) h1 h2) (pe_w (e := e2)) set_list (ha X F)) (hs X F) (hw X F)) ?_
  refine h X F σ G H s _ fun v G1 H1 d x1 s1 r1 p1 => ?_
  obtain ⟨q, xs, e1, h0, h3, h4, h5, h6, h7⟩ := own_at s1 ho
  refine ⟨.ref q, e1, hi X F σ G1 H1 s1 _ fun w G2 H2 d2 x2 s2 r2 p2 => ?_⟩
  subst p2
  obtain ⟨ys, g1, g2, g3⟩ := own_same s1 s2 ho e1
  refine ⟨q, ys, j, n, rfl, r2.int', g1, by rw [g2.length]; exact hj, ?_⟩
  exact k.nx σ G2 _ _ (x1.g.trans x2.g) (own_put s2 ho e1 (g2.set n (r1.mono x2.g)) (by rw [List.length_set]; exact g3)) (hn d p1)

/-! reading an owned list: its length, its items -/
theorem ev_ixO {i : Nat} {x : Str} {l : List D} {e2 : Expr} {j : Int} {p : Pos} (hN : I.N[i]? = some x) (hv : Vis I.sc x) (ho : ds[i]? = some (.own l)) (hi : EvE I c e2 ds (· = .int j)) (hj : atI l j = some d)
    (h1 : (x == ("__debug__" : Str)) = false := by decide) (h2 : (x == ("__classdict__" : Str)) = false := by decide) (hs : PlainIx e2 := by exact fun _ _ => rfl) : EvE I c (.Subscript (.Name x p) e2 pos) ds (· = d) := fun X F σ G H s Q k => by
  refine w_pe (pe_ix ix_list (pe_var (i := i) (by rw [F.N]; exact hN) (by rw [F.sc]; exact hv) h1 h2) pe_w hs) ?_
  obtain ⟨q, xs, e1, h0, h3, h4, h5, h6, h7⟩ := own_at s ho
  refine ⟨.ref q, e1, hi X F σ G H s _ fun w G2 H2 d2 x2 s2 r2 p2 => ?_⟩
  subst p2
  obtain ⟨ys, g1, g2, g3⟩ := own_same s s2 ho e1
  obtain ⟨v, k1, k2⟩ := g2.atI hj
  exact ⟨q, ys, j, v, rfl, r2.int', SqL.of g1, k1, (k.mono x2).now s2 k2 rfl⟩
theorem ev_lenO {i : Nat} {x : Str} {l : List D} {p p2 : Pos} (hg : I.sc.names.lookup ("len" : Str) = some .globalImplicit) (hm : I.mg "len" = none) (hN : I.N[i]? = some x) (hv : Vis I.sc x) (ho : ds[i]? = some (.own l))
    (h1 : (x == ("__debug__" : Str)) = false := by decide) (h2 : (x == ("__classdict__" : Str)) = false := by decide) : EvE I c (.Call (.Name "len" p) [.Name x p2] [] pos) ds (· = .int (l.length : Nat)) := fun X F σ G H s Q k => by
  refine w_pe (pe_callB call_len (by show X.env.scope.names.lookup _ = _; rw [F.sc]; exact hg) (by rw [F.mg]; exact hm) PySem.boot_len (pa_cons (pe_var (i := i) (by rw [F.N]; exact hN) (by rw [F.sc]; exact hv) h1 h2) pa_nil)) ?_
  obtain ⟨q, xs, e1, h0, h3, h4, h5, h6, h7⟩ := own_at s ho
  exact ⟨.ref q, e1, .ref q, l.length, rfl, .inl ⟨xs, SqL.of h6, h7.length.symm⟩, k.now s .int rfl⟩

/-! ### targets -/
def setDs (ds : List SD) (as : List (Nat × D)) : List SD := as.foldl (fun ds p => ds.set p.1 (.dat p.2)) ds
theorem wipe_set {σ : St} {i : Nat} {x : Option V} : ∀ {vs : List Nat}, i ∈ vs → wipe (σ.set i x) vs = wipe σ vs := by
  have key : ∀ vs : List Nat, wipe (σ.set i x) vs = if i ∈ vs then wipe σ vs else (wipe σ vs).set i x := by
    intro vs
    induction vs with
    | nil => simp [wipe]
    | cons v vs ih =>
      simp only [wipe, ih]
      by_cases h : v = i
      · subst h
        by_cases h2 : v ∈ vs
        · simp [h2]
        · simp [h2]
      · by_cases h2 : i ∈ vs
        · simp [h2]
        · have h3 : i ∉ v :: vs := by simp [h2]; exact fun z => h z.symm
          rw [if_neg h2, if_neg h3, List.set_comm _ _ (Ne.symm h)]
  intro vs h
  rw [key, if_pos h]
theorem NoOwn.set {σ : St} {ds : List SD} {p : Addr} (h : NoOwn σ ds p) {i : Nat} {v : V} {d : D} : NoOwn (σ.set i (some v)) (ds.set i (.dat d)) p := by
  intro j l hj
  by_cases e : j = i
  · subst e
    rcases Nat.lt_or_ge j ds.length with h0 | h0
    · rw [List.getElem?_set_self h0] at hj; cases hj
    · rw [List.getElem?_eq_none (by simp; exact h0)] at hj; cases hj
  · rw [List.getElem?_set_ne (Ne.symm e)] at *; exact h j l hj

def TgE (I : Inf) (tg : Expr) (asg : D → List (Nat × D) → Prop) : Prop := ∃ g, (∀ X, Fits I X → PG X tg g) ∧
  ∀ (c : Ct) (σ : St) (G H : Hp) (ds : List SD) (v : V) (d : D) (as : List (Nat × D)), S I c G H σ ds → Rp I.K G d v → asg d as → ∀ Q : St → Hp → Prop,
    (∀ σ2, S I c G H σ2 (setDs ds as) → (∀ vs, (∀ q ∈ as, q.1 ∈ vs) → wipe σ2 vs = wipe σ vs) → (∀ p, NoOwn σ ds p → NoOwn σ2 (setDs ds as) p) → Q σ2 H) → g v σ H Q
theorem tg_name {i : Nat} {x : Str} {p : Pos} (hx : Sto I i x) : TgE I (.Name x p) (fun d as => as = [(i, d)]) :=
  ⟨_, fun X F => pg_name (i := i) (by rw [F.N]; exact F.nd) (by rw [F.N]; exact hx.at_) (by rw [F.sc]; exact hx.loc) (hx.fn F), fun c σ G H ds v d as s r ha Q k => by
    subst ha
    exact k _ (State.set s (i := i) (sd := .dat d) rfl ⟨v, rfl, r⟩) (fun vs hv => wipe_set (hv (i, d) (by simp))) (fun p h => h.set)⟩
theorem tg_two {i j : Nat} {x y : Str} {p1 p2 p : Pos} {kk : Nat} (hx : Sto I i x) (hy : Sto I j y) : TgE I (.Tuple [.Name x p1, .Name y p2] kk p) (fun d as => ∃ d1 d2, d = .tuple [d1, d2] ∧ as = [(i, d1), (j, d2)]) :=
  ⟨gTup I.K 2 (gCons (gName i) (gCons (gName j) gNil)), fun X F => F.K ▸ pg_tup F.calm (pgs_cons (pg_name (i := i) (by rw [F.N]; exact F.nd) (by rw [F.N]; exact hx.at_) (by rw [F.sc]; exact hx.loc) (hx.fn F)) (pgs_cons (pg_name (i := j) (by rw [F.N]; exact F.nd) (by rw [F.N]; exact hy.at_) (by rw [F.sc]; exact hy.loc) (hy.fn F)) pgs_nil)),
    fun c σ G H ds v d as s r ha Q k => by
    obtain ⟨d1, d2, rfl, rfl⟩ := ha
    obtain ⟨a, xs, rfl, hq, _, ra⟩ := r.tup'
    obtain ⟨v1, v2, rfl, r1, r2⟩ := rpa2 ra
    have s1 := State.set s (i := i) (sd := .dat d1) rfl ⟨v1, rfl, r1⟩
    have s2 := State.set s1 (i := j) (sd := .dat d2) rfl ⟨v2, rfl, r2⟩
    refine ⟨a, [v1, v2], rfl, ex_t s.ex hq, rfl, v1, [v2], rfl, v2, [], rfl, rfl, ?_⟩
    exact k _ s2 (fun vs hv => (wipe_set (hv (j, d2) (by simp))).trans (wipe_set (hv (i, d1) (by simp)))) (fun p h => h.set.set)⟩
theorem tg_three {i j m : Nat} {x y z : Str} {p1 p2 p3 p : Pos} {kk : Nat} (hx : Sto I i x) (hy : Sto I j y) (hz : Sto I m z) : TgE I (.Tuple [.Name x p1, .Name y p2, .Name z p3] kk p) (fun d as => ∃ d1 d2 d3, d = .tuple [d1, d2, d3] ∧ as = [(i, d1), (j, d2), (m, d3)]) :=
  ⟨gTup I.K 3 (gCons (gName i) (gCons (gName j) (gCons (gName m) gNil))), fun X F => F.K ▸ pg_tup F.calm (pgs_cons (pg_name (i := i) (by rw [F.N]; exact F.nd) (by rw [F.N]; exact hx.at_) (by rw [F.sc]; exact hx.loc) (hx.fn F)) (pgs_cons (pg_name (i := j) (by rw [F.N]; exact F.nd) (by rw [F.N]; exact hy.at_) (by rw [F.sc]; exact hy.loc) (hy.fn F)) (pgs_cons (pg_name (i := m) (by rw [F.N]; exact F.nd) (by rw [F.N]; exact hz.at_) (by rw [F.sc]; exact hz.loc) (hz.fn F)) pgs_nil))),
    fun c σ G H ds v d as s r ha Q k => by
    obtain ⟨d1, d2, d3, rfl, rfl⟩ := ha
    obtain ⟨a, xs, rfl, hq, _, ra⟩ := r.tup'
    obtain ⟨v1, ws, rfl, r1, ra2⟩ := ra.inv
    obtain ⟨v2, v3, rfl, r2, r3⟩ := rpa2 ra2
    have s1 := State.set s (i := i) (sd := .dat d1) rfl ⟨v1, rfl, r1⟩
    have s2 := State.set s1 (i := j) (sd := .dat d2) rfl ⟨v2, rfl, r2⟩
    have s3 := State.set s2 (i := m) (sd := .dat d3) rfl ⟨v3, rfl, r3⟩
    refine ⟨a, [v1, v2, v3], rfl, ex_t s.ex hq, rfl, v1, [v2, v3], rfl, v2, [v3], rfl, v3, [], rfl, rfl, ?_⟩
    exact k _ s3 (fun vs hv => (wipe_set (hv (m, d3) (by simp))).trans ((wipe_set (hv (j, d2) (by simp))).trans (wipe_set (hv (i, d1) (by simp))))) (fun p h => h.set.set.set)⟩
/-- (a, b) = a tuple -/
theorem rs_tup {tg : Expr} {asg : D → List (Nat × D) → Prop} (ht : TgE I tg asg) (h : EvE I c e ds P) (hn : ∀ d, P d → ∃ as, asg d as ∧ A.nx (setDs ds as))
    (hs : ∀ X, Fits I X → swapsWithSole [tg] e pos.line X.env = pure false := by intros; rfl) (hw : ∀ X, Fits I X → swappedStores [tg] e X.env = pure none := by intros; rfl)
    (h1 : ∀ X, Fits I X → (assignEach [tg] X.env).map (·.2) = [assign tg X.env] := by intros; rfl) : RunS I c (.Assign [tg] e pos) ds A := fun X F σ G H E s k => by
  obtain ⟨g, hg, q⟩ := ht
  refine w_ps (ps_asg pe_w (hg X F) (hs X F) (hw X F) (h1 X F)) (h X F σ G H s _ fun v G1 H1 d x1 s1 r1 p1 => ?_)
  obtain ⟨as, ha, hn⟩ := hn d p1
  exact q c σ G1 H1 ds v d as s1 r1 ha _ fun σ2 s2 _ _ => k.nx σ2 G1 H1 _ x1.g s2 hn

/-! ### what is walked -/
/-- J yields these items one after the other as long as G stands -/
def Yields (K : Frag) (J : It) (G : Hp) (items : List D) : Prop :=
  ∀ (Z : Zone) (G0 H0 : Hp) (σ : St) (ds : List SD) (G1 H : Hp), Ex G G1 → State K Z G0 H0 G1 H σ ds →
    (∀ i d, items[i]? = some d → J.go i H ∧ ∀ x H', J.yld i H x H' → ∃ G2, Gr Z G1 H G2 H' ∧ State K Z G0 H0 G2 H' σ ds ∧ Rp K G2 d x) ∧ J.stop items.length H
def Walk (I : Inf) (c : Ct) (tg iter : Expr) (ds : List SD) (P : List D → Prop) : Prop := ∀ X, Fits I X → ∃ wi, PI X tg iter wi ∧ ∀ σ G H, S I c G H σ ds → ∀ R : It → Hp → Prop,
  (∀ J G' H' items, Gr c.Z G H G' H' → S I c G' H' σ ds → Yields I.K J G' items → P items → R J H') → wi σ H R
theorem yields_list {K : Frag} {a : Addr} {xs : List V} {l : List D} {G : Hp} (h : G a = some (.lst xs)) (r : RpA K G l xs) : Yields K (Itl K a) G l := fun Z G0 H0 σ ds G1 H x s =>
  ⟨fun i d hi => by
    obtain ⟨v, h1, h2⟩ := r.get hi
    have hq : SqL K H a xs := SqL.of (s.ex _ _ (x _ _ h))
    exact ⟨⟨xs, v, hq, h1⟩, fun y H' ⟨e, q⟩ => by
      subst e
      have := q xs hq
      rw [h1] at this; cases this
      exact ⟨G1, Gr.refl, s, h2.mono x⟩⟩, ⟨xs, SqL.of (s.ex _ _ (x _ _ h)), by rw [r.length]; exact Nat.le_refl _⟩⟩
theorem yields_tup {K : Frag} {a : Addr} {xs : List V} {l : List D} {G : Hp} (h : SqT K G a xs) (r : RpA K G l xs) : Yields K (Itt K a) G l := fun Z G0 H0 σ ds G1 H x s =>
  ⟨fun i d hi => by
    obtain ⟨v, h1, h2⟩ := r.get hi
    have hq : SqT K H a xs := ex_t s.ex (ex_t x h)
    exact ⟨⟨xs, v, hq, h1⟩, fun y H' ⟨e, q⟩ => by
      subst e
      have := q xs hq
      rw [h1] at this; cases this
      exact ⟨G1, Gr.refl, s, h2.mono x⟩⟩, ⟨xs, ex_t s.ex (ex_t x h), by rw [r.length]; exact Nat.le_refl _⟩⟩
theorem wk_list {tg : Expr} {l : List D} (h : EvE I c e ds (· = .list l)) : Walk I c tg e ds (· = l) := fun X F =>
  ⟨_, pi_list pe_w, fun σ G H s R k => h X F σ G H s _ fun v G1 H1 d x1 s1 r1 p1 => by
    subst p1
    obtain ⟨a, xs, rfl, h1, h2, h3⟩ := r1.lst'
    refine ⟨a, rfl, ⟨xs, SqL.of (s1.ex _ _ h1)⟩, ?_⟩
    have := k (Itl I.K a) G1 H1 l x1 s1 (yields_list h1 h3) rfl
    rw [F.K]; exact this⟩
theorem wk_tup {tg : Expr} {l : List D} (h : EvE I c e ds (· = .tuple l)) : Walk I c tg e ds (· = l) := fun X F =>
  ⟨_, pi_tup pe_w, fun σ G H s R k => h X F σ G H s _ fun v G1 H1 d x1 s1 r1 p1 => by
    subst p1
    obtain ⟨a, xs, rfl, h1, h2, h3⟩ := r1.tup'
    refine ⟨a, rfl, ⟨xs, by rw [F.K]; exact ex_t s1.ex h1⟩, ?_⟩
    have := k (Itt I.K a) G1 H1 l x1 s1 (yields_tup h1 h3) rfl
    rw [F.K]; exact this⟩
/-- the intsD from lo on, n of them -/
def intsD (lo : Int) (n : Nat) : List D := (List.range n).map fun i => .int (lo + (i : Nat))
theorem intsD_length (lo : Int) (n : Nat) : (intsD lo n).length = n := by simp [intsD]
theorem intsD_get {lo : Int} {n i : Nat} {d : D} (h : (intsD lo n)[i]? = some d) : i < n ∧ d = .int (lo + (i : Nat)) := by
  unfold intsD at h
  rw [List.getElem?_map] at h
  cases e : (List.range n)[i]? with
  | none => rw [e] at h; cases h
  | some j =>
    rw [e] at h
    have hi : i < n := by have := (List.getElem?_eq_some_iff.mp e).1; simpa using this
    rw [List.getElem?_range hi] at e; cases e; cases h
    exact ⟨hi, rfl⟩
theorem yields_intsD {K : Frag} {lo : Int} {n : Nat} {G : Hp} : Yields K (Itr lo n) G (intsD lo n) := fun Z G0 H0 σ ds G1 H x s =>
  ⟨fun i d hi => by
    obtain ⟨h1, rfl⟩ := intsD_get hi
    exact ⟨h1, fun y H' ⟨e, q⟩ => by
      subst e; subst q
      exact ⟨G1, Gr.refl, s, .int⟩⟩, by show n ≤ _; rw [intsD_length]; exact Nat.le_refl _⟩
theorem wk_range1P {tg : Expr} {p : Pos} {q : Int → Prop} (hg : I.sc.names.lookup ("range" : Str) = some .globalImplicit) (hm : I.mg "range" = none) (h : EvE I c e ds (IsI q)) (hq : ∀ n, q n → -(2 ^ 62) ≤ n ∧ n < 2 ^ 62)
    (hs : ∀ X, Fits I X → starEach [e] X.env = [(false, eval e X.env)] := by intros; rfl) : Walk I c tg (.Call (.Name "range" p) [e] [] pos) ds (fun l => ∃ n, q n ∧ l = intsD 0 n.toNat) := fun X F =>
  ⟨_, pi_range1 (by show X.env.scope.names.lookup _ = _; rw [F.sc]; exact hg) (by rw [F.mg]; exact hm) (pa_cons pe_w pa_nil (hs X F)) (hs X F), fun σ G H s R k => h X F σ G H s _ fun v G1 H1 d x1 s1 r1 p1 => by
    obtain ⟨n, rfl, hn⟩ := p1
    rw [r1.int']
    exact ⟨n, rfl, (hq n hn).1, (hq n hn).2, k _ G1 H1 _ x1 s1 yields_intsD ⟨n, hn, rfl⟩⟩⟩
theorem wk_range1 {tg : Expr} {p : Pos} {n : Int} (hg : I.sc.names.lookup ("range" : Str) = some .globalImplicit) (hm : I.mg "range" = none) (h : EvE I c e ds (· = .int n)) (h1 : -(2 ^ 62) ≤ n) (h2 : n < 2 ^ 62)
    (hs : ∀ X, Fits I X → starEach [e] X.env = [(false, eval e X.env)] := by intros; rfl) : Walk I c tg (.Call (.Name "range" p) [e] [] pos) ds (· = intsD 0 n.toNat) := fun X F => by
  obtain ⟨wi, a, b⟩ := wk_range1P (tg := tg) (p := p) (pos := pos) (q := (· = n)) hg hm (h.imp isI) (fun m hm => by rw [hm]; exact ⟨h1, h2⟩) hs X F
  exact ⟨wi, a, fun σ G H s R k => b σ G H s R fun J G' H' items gr s' y hy => k J G' H' items gr s' y (by obtain ⟨m, hm, e⟩ := hy; rw [e, hm])⟩
/-- enumerate of a list -/
def enumL (l : List D) : List D := l.zipIdx.map fun p => .tuple [.int (p.2 : Nat), p.1]
theorem enumL_length (l : List D) : (enumL l).length = l.length := by simp [enumL]
theorem enumL_get {l : List D} {i : Nat} {d : D} (h : (enumL l)[i]? = some d) : ∃ x, l[i]? = some x ∧ d = .tuple [.int (i : Nat), x] := by
  unfold enumL at h
  rw [List.getElem?_map, List.getElem?_zipIdx] at h
  cases e : l[i]? with
  | none => rw [e] at h; cases h
  | some x => rw [e] at h; simp at h; exact ⟨x, rfl, h.symm⟩
theorem State.tupled {K : Frag} {Z : Zone} {G0 H0 G1 H : Hp} {σ : St} {ds : List SD} (s : State K Z G0 H0 G1 H σ ds) {T : Addr} {v1 v2 : V} {d1 d2 : D} (hT : H T = none) (r1 : Rp K G1 d1 v1) (r2 : Rp K G1 d2 v2) :
    ∃ G2, Gr Z G1 H G2 (upd H T (.tup [v1, v2])) ∧ State K Z G0 H0 G2 (upd H T (.tup [v1, v2])) σ ds ∧ Rp K G2 (.tuple [d1, d2]) (.ref T) := by
  obtain ⟨s2, x2⟩ := s.laid (o := .tup [v1, v2]) hT
  exact ⟨_, x2, s2, .tup (SqT.of upd_same) (by show 2 ≤ 100000; decide) (.cons (r1.mono x2.g) (.cons (r2.mono x2.g) .nil))⟩
theorem yields_enum {K : Frag} {a : Addr} {xs : List V} {l : List D} {G : Hp} (h : G a = some (.lst xs)) (r : RpA K G l xs) : Yields K (Ite K a) G (enumL l) := fun Z G0 H0 σ ds G1 H x s =>
  ⟨fun i d hi => by
    obtain ⟨d0, h0, rfl⟩ := enumL_get hi
    obtain ⟨v, h1, h2⟩ := r.get h0
    have hq : SqL K H a xs := SqL.of (s.ex _ _ (x _ _ h))
    exact ⟨⟨xs, v, hq, h1⟩, fun y H' ⟨T, w, e1, hT, e2, q⟩ => by
      subst e1; subst e2
      have := q xs hq
      rw [h1] at this; cases this
      exact State.tupled s hT .int (h2.mono x)⟩, ⟨xs, SqL.of (s.ex _ _ (x _ _ h)), by rw [r.length, enumL_length]; exact Nat.le_refl _⟩⟩
theorem wk_enum {elts : List Expr} {kk : Nat} {tpos p : Pos} {l : List D} (hg : I.sc.names.lookup ("enumerate" : Str) = some .globalImplicit) (hm : I.mg "enumerate" = none) (h : EvE I c e ds (· = .list l))
    (hs : ∀ X, Fits I X → starEach [e] X.env = [(false, eval e X.env)] := by intros; rfl) : Walk I c (.Tuple elts kk tpos) (.Call (.Name "enumerate" p) [e] [] pos) ds (· = enumL l) := fun X F =>
  ⟨_, pi_enum (by show X.env.scope.names.lookup _ = _; rw [F.sc]; exact hg) (by rw [F.mg]; exact hm) (pa_cons pe_w pa_nil (hs X F)) (hs X F), fun σ G H s R k => h X F σ G H s _ fun v G1 H1 d x1 s1 r1 p1 => by
    subst p1
    obtain ⟨a, xs, rfl, h1, h2, h3⟩ := r1.lst'
    have := k (Ite I.K a) G1 H1 _ x1 s1 (yields_enum h1 h3) rfl
    exact ⟨a, xs, rfl, SqL.of (s1.ex _ _ h1), by rw [F.K]; exact this⟩⟩
/-- zip of two lists, of two tuples -/
def zipL (l m : List D) : List D := (l.zip m).map fun p => .tuple [p.1, p.2]
theorem zipL_get {l m : List D} {i : Nat} {d : D} (h : (zipL l m)[i]? = some d) : ∃ x y, l[i]? = some x ∧ m[i]? = some y ∧ d = .tuple [x, y] := by
  unfold zipL at h
  rw [List.getElem?_map] at h
  cases e : (l.zip m)[i]? with
  | none => rw [e] at h; cases h
  | some p =>
    rw [e] at h
    have := List.getElem?_zip_eq_some.mp e
    exact ⟨p.1, p.2, this.1, this.2, by simpa using h.symm⟩
theorem yields_zip {K : Frag} {a b : Addr} {xs ys : List V} {l m : List D} {G : Hp} (h : G a = some (.lst xs)) (r : RpA K G l xs) (h' : G b = some (.lst ys)) (r' : RpA K G m ys) : Yields K (Itz K a b) G (zipL l m) := fun Z G0 H0 σ ds G1 H x s => by
  have hq : SqL K H a xs := SqL.of (s.ex _ _ (x _ _ h))
  have hq' : SqL K H b ys := SqL.of (s.ex _ _ (x _ _ h'))
  refine ⟨fun i d hi => ?_, ⟨xs, ys, hq, hq', ?_⟩⟩
  · obtain ⟨d1, d2, g1, g2, rfl⟩ := zipL_get hi
    obtain ⟨v, h1, h2⟩ := r.get g1
    obtain ⟨w, h3, h4⟩ := r'.get g2
    exact ⟨⟨xs, ys, v, w, hq, hq', h1, h3⟩, fun y H' ⟨T, w1, w2, e1, hT, e2, q, q'⟩ => by
      subst e1; subst e2
      have t1 := q xs hq
      have t2 := q' ys hq'
      rw [h1] at t1; cases t1
      rw [h3] at t2; cases t2
      exact State.tupled s hT (h2.mono x) (h4.mono x)⟩
  · rw [r.length, r'.length]; unfold zipL; rw [List.length_map, List.length_zip]; omega
theorem yields_zipT {K : Frag} {a b : Addr} {xs ys : List V} {l m : List D} {G : Hp} (h : SqT K G a xs) (r : RpA K G l xs) (h' : SqT K G b ys) (r' : RpA K G m ys) : Yields K (RZ.ItzT K a b) G (zipL l m) := fun Z G0 H0 σ ds G1 H x s => by
  have hq : SqT K H a xs := ex_t s.ex (ex_t x h)
  have hq' : SqT K H b ys := ex_t s.ex (ex_t x h')
  refine ⟨fun i d hi => ?_, ⟨xs, ys, hq, hq', ?_⟩⟩
  · obtain ⟨d1, d2, g1, g2, rfl⟩ := zipL_get hi
    obtain ⟨v, h1, h2⟩ := r.get g1
    obtain ⟨w, h3, h4⟩ := r'.get g2
    exact ⟨⟨xs, ys, v, w, hq, hq', h1, h3⟩, fun y H' ⟨T, w1, w2, e1, hT, e2, q, q'⟩ => by
      subst e1; subst e2
      have t1 := q xs hq
      have t2 := q' ys hq'
      rw [h1] at t1; cases t1
      rw [h3] at t2; cases t2
      exact State.tupled s hT (h2.mono x) (h4.mono x)⟩
  · rw [r.length, r'.length]; unfold zipL; rw [List.length_map, List.length_zip]; omega
theorem wk_zip {elts : List Expr} {e2 : Expr} {kk : Nat} {tpos p : Pos} {l m : List D} {x y : D} (hg : I.sc.names.lookup ("zip" : Str) = some .globalImplicit) (hm : I.mg "zip" = none) (h : EvE I c e ds (· = x)) (h' : EvE I c e2 ds (· = y))
    (hxy : (x = .list l ∧ y = .list m) ∨ (x = .tuple l ∧ y = .tuple m))
    (hs : ∀ X, Fits I X → starEach [e, e2] X.env = (false, eval e X.env) :: starEach [e2] X.env := by intros; rfl) (hs2 : ∀ X, Fits I X → starEach [e2] X.env = (false, eval e2 X.env) :: starEach [] X.env := by intros; rfl) (hpl : ∀ X, Fits I X → (backTo pos (starEach [e2] X.env)).any (·.1) = false := by intros; rfl) :
    Walk I c (.Tuple elts kk tpos) (.Call (.Name "zip" p) [e, e2] [] pos) ds (· = zipL l m) := fun X F =>
  ⟨_, RZ.pi_zipA (by show X.env.scope.names.lookup _ = _; rw [F.sc]; exact hg) (by rw [F.mg]; exact hm) (pa_cons pe_w (pa_cons pe_w pa_nil (hs2 X F)) (hs X F)) (hs X F) (hpl X F), fun σ G H s R k => h X F σ G H s _ fun v G1 H1 d x1 s1 r1 p1 => h' X F σ G1 H1 s1 _ fun v2 G2 H2 d2 x2 s2 r2 p2 => by
    subst p1; subst p2
    have r1' := r1.mono x2.g
    rw [F.K]
    rcases hxy with ⟨rfl, rfl⟩ | ⟨rfl, rfl⟩
    · obtain ⟨a, xs, rfl, h1, _, h3⟩ := r1'.lst'
      obtain ⟨b, ys, rfl, g1, _, g3⟩ := r2.lst'
      exact ⟨a, b, xs, ys, rfl, .inl ⟨SqL.of (s2.ex _ _ h1), SqL.of (s2.ex _ _ g1), k _ G2 H2 _ (x1.trans x2) s2 (yields_zip h1 h3 g1 g3) rfl⟩⟩
    · obtain ⟨a, xs, rfl, h1, _, h3⟩ := r1'.tup'
      obtain ⟨b, ys, rfl, g1, _, g3⟩ := r2.tup'
      exact ⟨a, b, xs, ys, rfl, .inr ⟨ex_t s2.ex h1, ex_t s2.ex g1, k _ G2 H2 _ (x1.trans x2) s2 (yields_zipT h1 h3 g1 g3) rfl⟩⟩⟩

/-! ### for -/
theorem rs_forP {tg iter : Expr} {body : List Stmt} {asg : D → List (Nat × D) → Prop} {PL : List D → Prop} (hw : Walk I c tg iter ds PL) (ht : TgE I tg asg)
    (hW : ∀ items, PL items → ∃ W : Nat → List SD → Prop, W 0 ds ∧ (∀ i d ds', items[i]? = some d → W i ds' → ∃ as, asg d as ∧ Run I c body (setDs ds' as) { A with nx := W (i + 1), ct := W (i + 1), bk := A.nx }) ∧ ∀ ds', W items.length ds' → A.nx ds')
    (hs : ∀ X, Fits I X → ∀ x, foldedSetIterable iter X.env x = pure x := by intros; rfl) : RunS I c (.For tg iter body [] pos) ds A := fun X F σ G H E s k => by
  obtain ⟨wi, hi, qi⟩ := hw X F
  obtain ⟨g, hg, qg⟩ := ht
  refine w_ps (ps_for (by rw [F.xe]; exact PassesOwn.never) F.calm hi (hg X F) (pss_w (sts := body)) (hs X F)) ?_
  refine qi σ G H s _ fun J G1 H1 items x1 s1 y pl => ?_
  obtain ⟨W, h0, hs, hd⟩ := hW items pl
  refine ⟨fun i m σ' H' => m = items.length - i ∧ i ≤ items.length ∧ ∃ G' ds', Ex G1 G' ∧ S I c G' H' σ' ds' ∧ W i ds', ⟨_, rfl, Nat.zero_le _, G1, ds, Ex.refl _, s1, h0⟩, ?_⟩
  rintro i m σ' H' ⟨rfl, hi, G', ds', x', s', w⟩
  obtain ⟨ya, yb⟩ := y c.Z c.G0 c.H0 σ' ds' G' H' x' s'
  by_cases hlt : i < items.length
  · have hd' : items[i]? = some items[i] := by simp [hlt]
    obtain ⟨go, yl⟩ := ya i _ hd'
    refine .inr ⟨go, fun σ2 H2 => ∃ G2 ds2, Ex G1 G2 ∧ S I c G2 H2 σ2 ds2 ∧ W (i + 1) ds2, fun σ2 H2 ⟨G2, ds2, a1, a2, a3⟩ => ⟨items.length - (i + 1), by omega, rfl, hlt, G2, ds2, a1, a2, a3⟩, fun v H2 hy => ?_⟩
    obtain ⟨G2, gr, s2, r2⟩ := yl v H2 hy
    obtain ⟨as, ha, run⟩ := hs i _ ds' hd' w
    refine qg c σ' G2 H2 ds' v _ as s2 r2 ha _ fun σ3 s3 _ _ => ?_
    have xx : Ex G1 G2 := x'.trans gr.g
    have kk := k.mono (x1.g.trans xx)
    exact run X F σ3 G2 H2 _ s3 ⟨fun σ4 G4 H4 ds4 e4 s4 m4 => ⟨G4, ds4, xx.trans e4, s4, m4⟩, fun σ4 G4 H4 ds4 e4 s4 m4 => kk.nx σ4 G4 H4 ds4 e4 s4 m4, fun σ4 G4 H4 ds4 e4 s4 m4 => ⟨G4, ds4, xx.trans e4, s4, m4⟩, kk.rt, kk.ro, kk.r3⟩
  · have e : i = items.length := by omega
    subst e
    exact .inl ⟨yb, k.nx σ' G' H' ds' (x1.g.trans x') s' (hd ds' w)⟩
theorem rs_for {tg iter : Expr} {body : List Stmt} {asg : D → List (Nat × D) → Prop} {items : List D} (hw : Walk I c tg iter ds (· = items)) (ht : TgE I tg asg) (W : Nat → List SD → Prop) (h0 : W 0 ds)
    (hb : ∀ i d ds', items[i]? = some d → W i ds' → ∃ as, asg d as ∧ Run I c body (setDs ds' as) { A with nx := W (i + 1), ct := W (i + 1), bk := A.nx }) (hd : ∀ ds', W items.length ds' → A.nx ds')
    (hs : ∀ X, Fits I X → ∀ x, foldedSetIterable iter X.env x = pure x := by intros; rfl) : RunS I c (.For tg iter body [] pos) ds A :=
  rs_forP hw ht (fun l e => ⟨W, h0, by rw [e]; exact hb, by rw [e]; exact hd⟩) hs

/-! ### while -/
theorem rs_while {t : Expr} {body : List Stmt} (W : Nat → List SD → Prop) (m0 : Nat) (h0 : W m0 ds)
    (hb : ∀ m ds', W m ds' → ∃ b : Bool, EvT I c t ds' (· = b) ∧ (b = true → Run I c body ds' { A with nx := fun d => ∃ m', m' < m ∧ W m' d, ct := fun d => ∃ m', m' < m ∧ W m' d, bk := A.nx }) ∧ (b = false → A.nx ds')) :
    RunS I c (.While t body [] pos) ds A := fun X F σ G H E s k => by
  refine w_ps (ps_while (by rw [F.xe]; exact PassesOwn.never) pt_w (pss_w (sts := body))) ?_
  refine ⟨fun m σ' H' => ∃ G' ds', Ex G G' ∧ S I c G' H' σ' ds' ∧ W m ds', ⟨m0, G, ds, Ex.refl _, s, h0⟩, ?_⟩
  rintro m σ' H' ⟨G', ds', x', s', w⟩
  obtain ⟨b, et, run, fin⟩ := hb m ds' w
  refine et X F σ' G' H' s' _ fun b' G2 H2 x2 s2 p2 => ?_
  subst p2
  cases b' with
  | true =>
    refine iteT ⟨fun σ4 H4 => ∃ m', m' < m ∧ ∃ G4 ds4, Ex G G4 ∧ S I c G4 H4 σ4 ds4 ∧ W m' ds4, fun σ4 H4 h => h, ?_⟩
    have xx := x'.trans x2.g
    have kk := k.mono xx
    exact run rfl X F σ' G2 H2 _ s2 ⟨fun σ4 G4 H4 ds4 e4 s4 ⟨m', hm, w'⟩ => ⟨m', hm, G4, ds4, xx.trans e4, s4, w'⟩, fun σ4 G4 H4 ds4 e4 s4 m4 => kk.nx σ4 G4 H4 ds4 e4 s4 m4, fun σ4 G4 H4 ds4 e4 s4 ⟨m', hm, w'⟩ => ⟨m', hm, G4, ds4, xx.trans e4, s4, w'⟩, kk.rt, kk.ro, kk.r3⟩
  | false => exact iteF (k.nx σ' G2 H2 ds' (x'.trans x2.g) s2 (fin rfl))
end
end Dl


set_option Elab.async false
set_option linter.all false
namespace Dl
open PySem L2

def Inf.blk (I : Inf) (scope : Scope) : Inf := { I with sc := relS scope I.sc, fnc := fun x => scope.names.lookup x == some .cell, gd := false }
theorem Fits.blk {I : Inf} {X : Cx} (F : Fits I X) {scope : Scope} (hk : scope.kind = .function) (s : Shared) (H : Hp) (C : Addr) (cl : List (Str × Addr)) (fp : List Addr) :
    Fits (I.blk scope) (X.blk s H scope (compEnvC scope cl C X.env) fp) where
  gd := fun h => (by cases h)
  prog := F.prog
  w := F.w
  K := F.K
  mg := F.mg
  base := F.base
  N := F.N
  sc := by show relS scope X.env.scope = relS scope I.sc; rw [F.sc]
  calm := F.calm
  room := F.room
  xe := rfl
  fn := fun x h => h
  nd := F.nd
  kind := hk

/-- one reading for all that fits -/
def uE (I : Inf) (e : Expr) : TE := fun σ H Q => ∀ Y, Fits I Y → wE Y e σ H Q
theorem pe_u {I : Inf} {Y : Cx} (F : Fits I Y) {e : Expr} : PE Y e (uE I e) := ⟨fun pins s _ _ _ J h => h Y F pins s J⟩
def wI (X : Cx) (ifs : List Expr) : TT := fun σ H Q => ∀ (pins : List (Addr × Obj)) (s : Shared), Inv X pins σ H s →
    wpAny (model X.prog X.w) X.A (forIn ifs true fun c r => if r = true then do let ok ← isTrue c X.env (eval c X.env); pure (ForInStep.yield ok) else pure (ForInStep.yield r)) (TP X pins σ Q) X.xe s
def uI (I : Inf) (ifs : List Expr) : TT := fun σ H Q => ∀ Y, Fits I Y → wI Y ifs σ H Q
theorem pts_u {I : Inf} {Y : Cx} (F : Fits I Y) {ifs : List Expr} : PTs Y ifs (uI I ifs) := ⟨fun pins s _ _ _ J h => h Y F pins s J⟩
/-- a clause's tests come to b -/
def EvIs (I : Inf) (c : Ct) (ifs : List Expr) (ds : List SD) (b : Bool) : Prop :=
  ∀ X, Fits I X → ∀ σ G H, S I c G H σ ds → ∀ Q : Bool → Hp → Prop, (∀ G' H', Gr c.Z G H G' H' → S I c G' H' σ ds → Q b H') → wI X ifs σ H Q
section
variable {I : Inf} {c : Ct} {ds : List SD} {e : Expr} {P : D → Prop} {pos : Pos} {d : D}
theorem ei_nil : EvIs I c [] ds true := fun X F σ G H s Q k pins sh J => (pts_nil (X := X)).run pins sh σ H Q J (k G H Gr.refl s)
theorem ei_one {b : Bool} (h : EvT I c e ds (· = b)) : EvIs I c [e] ds b := fun X F σ G H s Q k pins sh J =>
  (pts_one (pt_w (X := X) (e := e))).run pins sh σ H Q J (h X F σ G H s _ fun b' G' H' x s' p => by subst p; exact k G' H' x s')

def wipeDs (ds : List SD) : List Nat → List SD
  | [] => ds
  | v :: vs => (wipeDs ds vs).set v .un
theorem State.unset {K : Frag} {Z : Zone} {G0 H0 G H : Hp} {σ : St} {ds : List SD} (s : State K Z G0 H0 G H σ ds) (i : Nat) : State K Z G0 H0 G H (σ.set i none) (ds.set i .un) := by
  refine ⟨s.ex, s.exg, s.nw, s.exm, s.deck, by simp [s.len], s.giv, fun j sd' h => ?_, fun j k d1 d2 p hjk h1 h2 h3 => ?_⟩
  · by_cases e : j = i
    · subst e
      rcases Nat.lt_or_ge j ds.length with h0 | h0
      · rw [List.getElem?_set_self h0] at h; cases h; trivial
      · rw [List.getElem?_eq_none (by simp; exact h0)] at h; cases h
    · rw [List.getElem?_set_ne (Ne.symm e)] at *; exact s.slots j sd' h
  · have g : ∀ {j : Nat} {d1 : List D}, (ds.set i .un)[j]? = some (.own d1) → j ≠ i ∧ ds[j]? = some (.own d1) := by
      intro j d1 h
      by_cases e : j = i
      · subst e
        rcases Nat.lt_or_ge j ds.length with h0 | h0
        · rw [List.getElem?_set_self h0] at h; cases h
        · rw [List.getElem?_eq_none (by simp; exact h0)] at h; cases h
      · rw [List.getElem?_set_ne (Ne.symm e)] at h; exact ⟨e, h⟩
    have a := g h1
    have b := g h2
    rw [List.getElem?_set_ne (Ne.symm a.1)] at h3
    rw [List.getElem?_set_ne (Ne.symm b.1)]
    exact s.dist j k d1 d2 p hjk a.2 b.2 h3
theorem State.wipe {K : Frag} {Z : Zone} {G0 H0 G H : Hp} {σ : St} {ds : List SD} (s : State K Z G0 H0 G H σ ds) : ∀ vs : List Nat, State K Z G0 H0 G H (L2.wipe σ vs) (wipeDs ds vs)
  | [] => s
  | v :: vs => (State.wipe s vs).unset v
theorem NoOwn.unset {σ : St} {ds : List SD} {p : Addr} (h : NoOwn σ ds p) (i : Nat) : NoOwn (σ.set i none) (ds.set i .un) p := by
  intro j l hj
  by_cases e : j = i
  · subst e
    rcases Nat.lt_or_ge j ds.length with h0 | h0
    · rw [List.getElem?_set_self h0] at hj; cases hj
    · rw [List.getElem?_eq_none (by simp; exact h0)] at hj; cases hj
  · rw [List.getElem?_set_ne (Ne.symm e)] at *; exact h j l hj
theorem NoOwn.wipe {σ : St} {ds : List SD} {p : Addr} (h : NoOwn σ ds p) : ∀ vs : List Nat, NoOwn (L2.wipe σ vs) (wipeDs ds vs) p
  | [] => h
  | v :: vs => (NoOwn.wipe h vs).unset v

/-- what a comprehension has made of the items so far: the values of those that are kept -/
inductive Made (keep : D → Bool) (R : D → D → Prop) : List D → List D → Prop where
  | nil : Made keep R [] []
  | skip {items l d} : Made keep R items l → keep d = false → Made keep R (items ++ [d]) l
  | put {items l d y} : Made keep R items l → keep d = true → R d y → Made keep R (items ++ [d]) (l ++ [y])
theorem Made.length {keep : D → Bool} {R : D → D → Prop} {items l : List D} (h : Made keep R items l) : l.length ≤ items.length := by
  induction h with
  | nil => exact Nat.le_refl _
  | skip _ _ ih => simp; omega
  | put _ _ _ ih => simp; omega
theorem Made.all {R : D → D → Prop} {items l : List D} (h : Made (fun _ => true) R items l) : l.length = items.length ∧ ∀ (i : Nat) x y, items[i]? = some x → l[i]? = some y → R x y := by
  induction h with
  | nil => exact ⟨rfl, fun i x y h => by simp at h⟩
  | skip _ h _ => cases h
  | @put items l d y _ _ r ih =>
    refine ⟨by simp [ih.1], fun i x z hx hz => ?_⟩
    by_cases e : i < items.length
    · rw [List.getElem?_append_left e] at hx
      rw [List.getElem?_append_left (by omega)] at hz
      exact ih.2 i x z hx hz
    · rw [List.getElem?_append_right (by omega)] at hx
      rw [List.getElem?_append_right (by omega)] at hz
      have h1 := (List.getElem?_eq_some_iff.mp hx).1
      simp at h1
      have e2 : i = items.length := by omega
      subst e2
      rw [show items.length - items.length = 0 from by omega] at hx
      rw [show items.length - l.length = 0 from by omega] at hz
      simp at hx hz
      subst hx; subst hz; exact r
theorem Made.map {f : D → D} {items l : List D} (h : Made (fun _ => true) (fun x y => y = f x) items l) : l = items.map f := by
  induction h with
  | nil => rfl
  | skip _ h _ => cases h
  | put _ _ r ih => rw [List.map_append, ih, r]; rfl
theorem Made.filterMap {keep : D → Bool} {f : D → D} {items l : List D} (h : Made keep (fun x y => y = f x) items l) : l = (items.filter keep).map f := by
  induction h with
  | nil => rfl
  | skip _ h ih => rw [List.filter_append, ih]; simp [h]
  | put _ h r ih => rw [List.filter_append, ih, r]; simp [h]
theorem Made.fold {keep : D → Bool} {R : D → D → Prop} {Q : List D → List D → Prop} {items l : List D} (h : Made keep R items l) (h0 : Q [] []) (h1 : ∀ is l d, Q is l → keep d = false → Q (is ++ [d]) l)
    (h2 : ∀ is l d y, Q is l → keep d = true → R d y → Q (is ++ [d]) (l ++ [y])) : Q items l := by
  induction h with
  | nil => exact h0
  | skip _ h ih => exact h1 _ _ _ ih h
  | put _ h r ih => exact h2 _ _ _ _ ih h r

/-- the comprehension's own reading -/
theorem ef_lc_core {elt tg iter : Expr} {ifs : List Expr} {scope : Scope} (own : List (Str × Nat)) {asg : D → List (Nat × D) → Prop} {PL : List D → Prop} {keep : D → Bool} {R : D → D → Prop} {wi : TI} {g : TG}
    (hb : blkC I.N I.sc scope own = true)
    {X : Cx} (hi : PI X tg iter wi)
    (qi : ∀ σ G H, S I c G H σ ds → ∀ R : It → Hp → Prop, (∀ J G' H' items, Gr c.Z G H G' H' → S I c G' H' σ ds → Yields I.K J G' items → PL items → R J H') → wi σ H R)
    (hg : ∀ X, Fits (I.blk scope) X → PG X tg g)
    (qg : ∀ (c : Ct) (σ : St) (G H : Hp) (ds : List SD) (v : V) (d : D) (as : List (Nat × D)), S (I.blk scope) c G H σ ds → Rp (I.blk scope).K G d v → asg d as → ∀ Q : St → Hp → Prop,
      (∀ σ2, S (I.blk scope) c G H σ2 (setDs ds as) → (∀ vs, (∀ q ∈ as, q.1 ∈ vs) → L2.wipe σ2 vs = L2.wipe σ vs) → (∀ p, NoOwn σ ds p → NoOwn σ2 (setDs ds as) p) → Q σ2 H) → g v σ H Q)
    (hl : ∀ items, PL items → items.length ≤ Lm)
    (he : ∀ items, PL items → ∀ d ∈ items, ∃ as, asg d as ∧ (∀ q ∈ as, q.1 ∈ (own.map (fun x : Str × Nat => x.2))) ∧ EvIs (I.blk scope) c ifs (setDs (wipeDs ds (own.map (fun x : Str × Nat => x.2))) as) (keep d) ∧ (keep d = true → EvE (I.blk scope) c elt (setDs (wipeDs ds (own.map (fun x : Str × Nat => x.2))) as) (R d)))
    (X : Cx) (F : Fits I X) (σ : St) (G H : Hp) (s : S I c G H σ ds) (Q : VK)
    (k : ∀ p xs G' H' l, Gr c.Z G H G' H' → S I c G' H' σ ds → H p = none → G' p = none → ¬ inDeck c.Z p → l.length ≤ Lm → H' p = some (.lst xs) → RpA I.K G' l xs → (∃ items, PL items ∧ Made keep R items l) → Q (.ref p) H') :
    tLc wi g (uI (I.blk scope) ifs) (uE (I.blk scope) elt) (own.map (fun x : Str × Nat => x.2)) σ H Q := by
  refine qi σ G H s _ fun J G1 H1 items x1 s1 y pl => fun L nL => ?_
  have llen := hl items pl
  have hL0 : H L = none := by
    cases e : H L with
    | none => rfl
    | some o => exact absurd nL (x1.dom L (by rw [e]; exact fun z => nomatch z))
  have no : NoOwn σ ds L := s1.noOwn nL
  have ndk : ¬ inDeck c.Z L := S.ndeck s1 nL
  have h00 : c.H0 L = none := S.h0none s1 nL
  have gL : G1 L = none := S.gnone s1 nL
  -- between two turns
  refine ⟨fun i m H' => m = items.length - i ∧ i ≤ items.length ∧ ∃ G' acc l, Gr c.Z G1 H1 G' H' ∧ S I c G' H' σ ds ∧ G' L = none ∧ H' L = some (.lst acc) ∧ RpA I.K G' l acc ∧ Made keep R (items.take i) l,
    ⟨items.length, rfl, Nat.zero_le _, G1, [], [], ⟨Ex.refl _, fun a o h z => by rw [upd_ne (ne_of_none h nL)]; exact h, fun p h => .inl h, fun p h z => ?_⟩, State.aside s1 nL, gL, upd_same, .nil, by simp; exact .nil⟩, ?_⟩
  · by_cases e : p = L
    · rw [e, upd_same] at z; cases z
    · rw [upd_ne e] at z; exact h z
  rintro i m H' ⟨rfl, hile, G', acc, l, gr, s', hgL, hHL, ra, made⟩
  obtain ⟨ya, yb⟩ := y c.Z c.G0 c.H0 σ ds G' H' gr.g s'
  by_cases hlt : i < items.length
  · have hd' : items[i]? = some items[i] := by simp [hlt]
    obtain ⟨go, yl⟩ := ya i _ hd'
    refine .inr ⟨go, fun H2 => ∃ G' acc l, Gr c.Z G1 H1 G' H2 ∧ S I c G' H2 σ ds ∧ G' L = none ∧ H2 L = some (.lst acc) ∧ RpA I.K G' l acc ∧ Made keep R (items.take (i + 1)) l, fun H2 q => ⟨items.length - (i + 1), by omega, rfl, hlt, q⟩, fun v H2 hy => ?_⟩
    obtain ⟨G2, gr2, s2, r2⟩ := yl v H2 hy
    obtain ⟨as, ha, hin, hif, hel⟩ := he items pl items[i] (by simp)
    have htk : items.take (i + 1) = items.take i ++ [items[i]] := by rw [List.take_add_one, hd']; rfl
    -- what stays of L
    have keepL : ∀ {Ga Ha Gb Hb : Hp}, Gr c.Z Ga Ha Gb Hb → Ga L = none → Ha L = some (.lst acc) → Gb L = none ∧ Hb L = some (.lst acc) := by
      intro Ga Ha Gb Hb gr h1 h2
      refine ⟨?_, gr.h _ _ h2 ndk⟩
      cases e : Gb L with
      | none => rfl
      | some o =>
        rcases gr.nw L (by rw [e]; exact fun z => nomatch z) with z | z
        · exact absurd h1 z
        · rw [h2] at z; cases z
    obtain ⟨gL2, hL2⟩ := keepL gr2 hgL hHL
    have sw : S (I.blk scope) c G2 H2 (wipe σ (own.map (fun x : Str × Nat => x.2))) (wipeDs ds (own.map (fun x : Str × Nat => x.2))) := State.wipe s2 (own.map (fun x : Str × Nat => x.2))
    refine qg c (wipe σ (own.map (fun x : Str × Nat => x.2))) G2 H2 (wipeDs ds (own.map (fun x : Str × Nat => x.2))) v items[i] as sw r2 ha _ fun σ3 s3 hwp hno => ?_
    refine ⟨(hwp (own.map (fun x : Str × Nat => x.2)) hin).trans ?_, fun Y FY => hif Y FY σ3 G2 H2 s3 _ fun G3 H3 gr3 s4 => ?_⟩
    · have key : ∀ vs : List Nat, ∀ us : List Nat, (∀ u ∈ us, u ∈ vs) → wipe (wipe σ us) vs = wipe σ vs := by
        intro vs us
        induction us with
        | nil => intro _; rfl
        | cons u us ih =>
          intro hu
          show wipe ((wipe σ us).set u none) vs = _
          rw [wipe_set (hu u (by simp)), ih (fun w hw => hu w (by simp [hw]))]
      exact key _ _ (fun u hu => hu)
    · obtain ⟨gL3, hL3⟩ := keepL gr3 gL2 hL2
      have s4' : S I c G3 H3 σ ds := s2.regrow s4 gr3
      cases hkeep : keep items[i] with
      | false =>
        refine iteF ⟨G3, acc, l, (gr.trans gr2).trans gr3, s4', gL3, hL3, ra.mono (gr2.g.trans gr3.g), ?_⟩
        rw [htk]; exact made.skip hkeep
      | true =>
        refine iteT (fun Y FY => hel hkeep Y FY σ3 G3 H3 s4 _ fun z G4 H4 t gr4 s5 r5 p5 => ?_)
        obtain ⟨gL4, hL4⟩ := keepL gr4 gL3 hL3
        have s5' : S I c G4 H4 σ ds := s4'.regrow s5 gr4
        have hacc : acc.length = l.length := ra.length
        have hml := made.length
        rw [List.length_take] at hml
        refine ⟨acc, hL4, by rw [hacc]; exact Lm_lt (by omega), G4, acc ++ [z], l ++ [t], ?_, s5'.poke gL4 ndk h00 no, gL4, upd_same, (ra.mono ((gr2.g.trans gr3.g).trans gr4.g)).append (.cons r5 .nil), by rw [htk]; exact made.put hkeep p5⟩
        have g4 := ((gr.trans gr2).trans gr3).trans gr4
        refine ⟨g4.g, fun a o h z' => ?_, g4.nw, fun p h z' => ?_⟩
        · have : a ≠ L := by
            rintro rfl
            rw [nL] at h; cases h
          rw [upd_ne this]; exact g4.h a o h z'
        · by_cases e : p = L
          · rw [e, upd_same] at z'; cases z'
          · rw [upd_ne e] at z'; exact g4.dom p h z'
  · have e : i = items.length := by omega
    subst e
    refine .inl ⟨yb, k L acc G' H' l (x1.trans gr) s' hL0 hgL ndk ?_ hHL ra ⟨items, pl, by rw [List.take_length] at made; exact made⟩⟩
    have := made.length
    rw [List.take_length] at this
    omega
/-- [elt for tg in iter if ..]: a fresh list -/
theorem ef_lc {elt tg iter : Expr} {ifs : List Expr} {scope : Scope} (own : List (Str × Nat)) {asg : D → List (Nat × D) → Prop} {PL : List D → Prop} {keep : D → Bool} {R : D → D → Prop}
    (hb : blkC I.N I.sc scope own = true) (hw : Walk I c tg iter ds PL) (ht : TgE (I.blk scope) tg asg) (hl : ∀ items, PL items → items.length ≤ Lm)
    (he : ∀ items, PL items → ∀ d ∈ items, ∃ as, asg d as ∧ (∀ q ∈ as, q.1 ∈ own.map (fun x : Str × Nat => x.2)) ∧ EvIs (I.blk scope) c ifs (setDs (wipeDs ds (own.map (fun x : Str × Nat => x.2))) as) (keep d) ∧ (keep d = true → EvE (I.blk scope) c elt (setDs (wipeDs ds (own.map (fun x : Str × Nat => x.2))) as) (R d)))
    (hs : ∀ X, Fits I X → ∀ x, foldedSetIterable iter X.env x = pure x := by intros; rfl) :
    EvF I c (.ListComp elt [⟨tg, iter, ifs, 0⟩] scope pos) ds (fun l => ∃ items, PL items ∧ Made keep R items l) := fun X F σ G H s Q k => by
  obtain ⟨wi, hi, qi⟩ := hw X F
  obtain ⟨g, hg, qg⟩ := ht
  have hk : scope.kind = .function := (blkOk_by hb).kind
  refine w_pe (pe_lc (own := own) (g := g) (tt := uI (I.blk scope) ifs) (te := uE (I.blk scope) elt) F.calm (by rw [F.N]; exact F.nd) hi (by rw [F.N, F.sc]; exact blkOk_by hb)
    (fun s H C cl fp => hg _ (F.blk hk s H C cl fp)) (fun s H C cl fp => pts_u (F.blk hk s H C cl fp)) (fun s H C cl fp => pe_u (F.blk hk s H C cl fp)) (hs X F)) ?_
  exact ef_lc_core own hb hi qi hg qg hl he X F σ G H s Q k
end
end Dl


set_option Elab.async false
set_option linter.all false
namespace Dl
open PySem L2

/-! ### arguments: data, and the deck -/
inductive AD where
  | dat (d : D) | deck
def ArgRp (K : Frag) (Z : Zone) (G : Hp) : AD → V → Prop
  | .dat d, v => Rp K G d v
  | .deck, v => ∃ dk c, Z.deck = some (dk, c) ∧ v = .ref dk
def ArgsRp (K : Frag) (Z : Zone) (G : Hp) : List AD → List V → Prop
  | [], vs => vs = []
  | a :: as, vs => ∃ v ws, vs = v :: ws ∧ ArgRp K Z G a v ∧ ArgsRp K Z G as ws
theorem ArgRp.mono {K : Frag} {Z : Zone} {G G' : Hp} (e : Ex G G') {a : AD} {v : V} (h : ArgRp K Z G a v) : ArgRp K Z G' a v := by
  cases a with
  | dat d => exact Rp.mono e d h
  | deck => exact h
theorem ArgsRp.length {K : Frag} {Z : Zone} {G : Hp} : ∀ {as : List AD} {vs : List V}, ArgsRp K Z G as vs → vs.length = as.length
  | [], _, h => by unfold ArgsRp at h; rw [h]; rfl
  | a :: as, _, h => by
    unfold ArgsRp at h
    obtain ⟨v, ws, rfl, _, h2⟩ := h
    simp [ArgsRp.length h2]
theorem ArgsRp.get {K : Frag} {Z : Zone} {G : Hp} : ∀ {as : List AD} {vs : List V} {i : Nat} {a : AD}, ArgsRp K Z G as vs → as[i]? = some a → ∃ v, vs[i]? = some v ∧ ArgRp K Z G a v
  | [], _, _, _, _, e => by simp at e
  | a :: as, _, 0, _, h, e => by
    unfold ArgsRp at h
    obtain ⟨v, ws, rfl, h1, h2⟩ := h
    simp at e; subst e; exact ⟨v, rfl, h1⟩
  | a :: as, _, i + 1, _, h, e => by
    unfold ArgsRp at h
    obtain ⟨v, ws, rfl, h1, h2⟩ := h
    obtain ⟨u, e1, e2⟩ := ArgsRp.get (i := i) h2 (by simpa using e)
    exact ⟨u, by simpa using e1, e2⟩
theorem ArgsRp.dats {K : Frag} {Z : Zone} {G : Hp} : ∀ {l : List D} {vs : List V}, RpA K G l vs → ArgsRp K Z G (l.map AD.dat) vs
  | [], _, h => by unfold RpA at h; exact h
  | d :: l, _, h => by
    obtain ⟨v, ws, rfl, h1, h2⟩ := h.inv
    exact ⟨v, ws, rfl, h1, ArgsRp.dats h2⟩

theorem ArgsRp.zone {K : Frag} {Z Z' : Zone} {G : Hp} (hz : Z.deck = Z'.deck) : ∀ {as : List AD} {vs : List V}, ArgsRp K Z G as vs → ArgsRp K Z' G as vs
  | [], _, h => h
  | a :: as, _, h => by
    unfold ArgsRp at *
    obtain ⟨v, ws, rfl, h1, h2⟩ := h
    refine ⟨v, ws, rfl, ?_, ArgsRp.zone hz h2⟩
    cases a with
    | dat d => exact h1
    | deck => unfold ArgRp at *; rw [← hz]; exact h1

/-! ### promises -/
/-- Pc: for such arguments what may come back is told by R -/
def spD (K : Frag) (Pc : List AD → (D → Prop) → Prop) : Sp := fun vs H Q _ => ∃ (Z : Zone) (G : Hp) (ads : List AD) (R : D → Prop), Z.given = none ∧ Ex G H ∧ DeckIn Z G H ∧ ArgsRp K Z G ads vs ∧ Pc ads R ∧
  ∀ v G' H' d, State K Z G H G' H' [] [] → Rp K G' d v → R d → Q v H'
/-- .. a fresh list -/
def spF (K : Frag) (Pc : List AD → (List D → Prop) → Prop) : Sp := fun vs H Q _ => ∃ (Z : Zone) (G : Hp) (ads : List AD) (R : List D → Prop), Z.given = none ∧ Ex G H ∧ DeckIn Z G H ∧ ArgsRp K Z G ads vs ∧ Pc ads R ∧
  ∀ p xs G' H' l, State K Z G H G' H' [] [] → H p = none → G' p = none → ¬ inDeck Z p → l.length ≤ Lm → H' p = some (.lst xs) → RpA K G' l xs → R l → Q (.ref p) H'

structure FnS (I : Inf) (x : Str) (sp : Sp) : Prop where
  ok : ∃ (f : Addr) (fd : FuncData) (ps : List Str), I.mg x = some (.ref f) ∧ PySem.W.keepIn I.K (.ref f) = true ∧ Binds I.K fd ps [] ∧ FnOk I.prog I.w I.K I.mg I.base CX0 I.k f fd ps sp
abbrev FnD (I : Inf) (x : Str) (Pc : List AD → (D → Prop) → Prop) : Prop := FnS I x (spD I.K Pc)
abbrev FnF (I : Inf) (x : Str) (Pc : List AD → (List D → Prop) → Prop) : Prop := FnS I x (spF I.K Pc)

section
variable {I : Inf} {c : Ct} {ds : List SD} {e : Expr} {es : List Expr} {P : D → Prop} {pos : Pos} {d : D}

def EvAD (I : Inf) (c : Ct) (es : List Expr) (ds : List SD) (P : List AD → Prop) : Prop :=
  ∀ X, Fits I X → ∀ σ G H, S I c G H σ ds → ∀ Q : List V → Hp → Prop, (∀ vs G' H' l, Gr c.Z G H G' H' → S I c G' H' σ ds → ArgsRp I.K c.Z G' l vs → P l → Q vs H') → wA X es σ H Q
theorem ed_nil : EvAD I c [] ds (· = []) := fun X F σ G H s Q k => w_pa pa_nil (k [] G H [] Gr.refl s (by unfold ArgsRp; rfl) rfl)
theorem ed_datP {R T : List AD → Prop} (h : EvE I c e ds P) (hr : EvAD I c es ds R) (hp : ∀ d l, P d → R l → T (.dat d :: l))
    (hs : ∀ X, Fits I X → starEach (e :: es) X.env = (false, eval e X.env) :: starEach es X.env := by intros; rfl) : EvAD I c (e :: es) ds T := fun X F σ G H s Q k =>
  w_pa (pa_cons pe_w pa_w (hs X F)) (h X F σ G H s _ fun v G1 H1 d x1 s1 r1 p1 => hr X F σ G1 H1 s1 _ fun vs G2 H2 l x2 s2 r2 p2 =>
    k (v :: vs) G2 H2 (.dat d :: l) (x1.trans x2) s2 ⟨v, vs, rfl, Rp.mono x2.g d r1, r2⟩ (hp d l p1 p2))
theorem ed_dat {l : List AD} (h : EvE I c e ds (· = d)) (hr : EvAD I c es ds (· = l))
    (hs : ∀ X, Fits I X → starEach (e :: es) X.env = (false, eval e X.env) :: starEach es X.env := by intros; rfl) : EvAD I c (e :: es) ds (· = .dat d :: l) :=
  ed_datP h hr (fun d' l' h1 h2 => by rw [h1, h2]) hs
theorem ed_deckP {R T : List AD → Prop} (i : Nat) {x : Str} {p : Pos} (hN : I.N[i]? = some x) (hv : Vis I.sc x) (hd : ds[i]? = some .deck) (hr : EvAD I c es ds R) (hp : ∀ l, R l → T (.deck :: l))
    (h1 : (x == ("__debug__" : Str)) = false := by decide) (h2 : (x == ("__classdict__" : Str)) = false := by decide)
    (hs : ∀ X, Fits I X → starEach (.Name x p :: es) X.env = (false, eval (.Name x p) X.env) :: starEach es X.env := by intros; rfl) : EvAD I c (.Name x p :: es) ds T := fun X F σ G H s Q k => by
  refine w_pa (pa_cons (pe_var (i := i) (by rw [F.N]; exact hN) (by rw [F.sc]; exact hv) h1 h2) pa_w (hs X F)) ?_
  obtain ⟨dk, cc, hz, e1⟩ := s.slots i _ hd
  refine ⟨.ref dk, ?_, hr X F σ G H s _ fun vs G2 H2 l x2 s2 r2 p2 => k (.ref dk :: vs) G2 H2 (.deck :: l) x2 s2 ⟨.ref dk, vs, rfl, ⟨dk, cc, hz, rfl⟩, r2⟩ (hp l p2)⟩
  cases z : σ[i]? with
  | none => rw [z] at e1; cases e1
  | some o => rw [z] at e1; simpa using e1
theorem ed_deck {l : List AD} (i : Nat) {x : Str} {p : Pos} (hN : I.N[i]? = some x) (hv : Vis I.sc x) (hd : ds[i]? = some .deck) (hr : EvAD I c es ds (· = l))
    (h1 : (x == ("__debug__" : Str)) = false := by decide) (h2 : (x == ("__classdict__" : Str)) = false := by decide)
    (hs : ∀ X, Fits I X → starEach (.Name x p :: es) X.env = (false, eval (.Name x p) X.env) :: starEach es X.env := by intros; rfl) : EvAD I c (.Name x p :: es) ds (· = .deck :: l) :=
  ed_deckP i hN hv hd hr (fun l' h => by rw [h]) h1 h2 hs

/-! ### calls of defs -/
theorem ev_callD {x : Str} {p : Pos} {Pc : List AD → (D → Prop) → Prop} {PA : List AD → Prop} (hf : FnD I x Pc) (hg : I.sc.names.lookup x = some .globalImplicit) (ha : EvAD I c (e :: es) ds PA)
    (h : ∀ l, PA l → ∃ R, Pc l R ∧ ∀ d, R d → P d) (hdb : (x == ("__debug__" : Str)) = false := by decide)
    (he : ∀ X, Fits I X → starEach (e :: es) X.env = (false, eval e X.env) :: starEach es X.env := by intros; rfl) (hpl : ∀ X, Fits I X → (backTo pos (starEach es X.env)).any (·.1) = false := by intros; rfl) :
    EvE I c (.Call (.Name x p) (e :: es) [] pos) ds P := fun X F σ G H s Q k => by
  obtain ⟨f, fd, ps, hm, hk, hb, G0⟩ := hf.ok
  have G1 : FnOk X.prog X.w X.K X.mg X.base CX0 I.k f fd ps (spD I.K Pc) := by rw [F.prog, F.w, F.K, F.mg, F.base]; exact G0
  refine w_pe (pe_call G1 F.room (by show X.env.scope.names.lookup x = _; rw [F.sc]; exact hg) (by rw [F.mg]; exact hm) (by rw [F.K]; exact hk) (by rw [F.K]; exact hb) .nil pass0 pa_w hdb (he X F) (hpl X F)) ?_
  refine ha X F σ G H s _ fun vs G1 H1 l x1 s1 r1 p1 => ?_
  obtain ⟨R, hc, hp⟩ := h l p1
  rw [List.append_nil]
  refine ⟨{ deck := c.Z.deck }, G1, l, R, rfl, s1.ex, s1.deck, ArgsRp.zone (Z := c.Z) (Z' := { deck := c.Z.deck }) rfl r1, hc, fun v G' H' d t r q => ?_⟩
  obtain ⟨s2, gr⟩ := State.after s1 t rfl (.inr rfl)
  exact k v G' H' d (x1.trans gr) s2 r (hp d q)
theorem ef_callF {x : Str} {p : Pos} {Pc : List AD → (List D → Prop) → Prop} {PA : List AD → Prop} {PL : List D → Prop} (hf : FnF I x Pc) (hg : I.sc.names.lookup x = some .globalImplicit) (ha : EvAD I c (e :: es) ds PA)
    (h : ∀ l, PA l → ∃ R, Pc l R ∧ ∀ d, R d → PL d) (hdb : (x == ("__debug__" : Str)) = false := by decide)
    (he : ∀ X, Fits I X → starEach (e :: es) X.env = (false, eval e X.env) :: starEach es X.env := by intros; rfl) (hpl : ∀ X, Fits I X → (backTo pos (starEach es X.env)).any (·.1) = false := by intros; rfl) :
    EvF I c (.Call (.Name x p) (e :: es) [] pos) ds PL := fun X F σ G H s Q k => by
  obtain ⟨f, fd, ps, hm, hk, hb, G0⟩ := hf.ok
  have G1 : FnOk X.prog X.w X.K X.mg X.base CX0 I.k f fd ps (spF I.K Pc) := by rw [F.prog, F.w, F.K, F.mg, F.base]; exact G0
  refine w_pe (pe_call G1 F.room (by show X.env.scope.names.lookup x = _; rw [F.sc]; exact hg) (by rw [F.mg]; exact hm) (by rw [F.K]; exact hk) (by rw [F.K]; exact hb) .nil pass0 pa_w hdb (he X F) (hpl X F)) ?_
  refine ha X F σ G H s _ fun vs G1 H1 l x1 s1 r1 p1 => ?_
  obtain ⟨R, hc, hp⟩ := h l p1
  rw [List.append_nil]
  refine ⟨{ deck := c.Z.deck }, G1, l, R, rfl, s1.ex, s1.deck, ArgsRp.zone (Z := c.Z) (Z' := { deck := c.Z.deck }) rfl r1, hc, fun q xs G' H' m t np hg' hd hl hh r qq => ?_⟩
  obtain ⟨s2, gr⟩ := State.after s1 t rfl (.inr rfl)
  have np0 : H q = none := by
    cases e : H q with
    | none => rfl
    | some o => exact absurd np (x1.dom q (by rw [e]; exact fun z => nomatch z))
  exact k q xs G' H' m (x1.trans gr) s2 np0 hg' hd hl hh r (hp m qq)
end

/-! ### a def keeps its promise -/
def SD.of : AD → SD
  | .dat d => .dat d
  | .deck => .deck
def startD (ads : List AD) (n : Nat) : List SD := ads.map SD.of ++ List.replicate (n - ads.length) .un
theorem State.start {K : Frag} {Z : Zone} {G H : Hp} {ads : List AD} {vs : List V} {N : List Str} (hz : Z.given = none) (ex : Ex G H) (hd : DeckIn Z G H) (r : ArgsRp K Z G ads vs) (hn : ads.length ≤ N.length) :
    State K Z G H G H (start N vs) (startD ads N.length) := by
  have hl := r.length
  refine ⟨ex, Ex.refl _, fun p h => .inl h, fun a o h _ => h, hd, ?_, fun p h => (by rw [hz] at h; cases h), fun i sd h => ?_, fun i j d1 d2 p _ h => ?_⟩
  · unfold L2.start startD; simp [hl]
  · unfold startD at h
    by_cases hi : i < ads.length
    · rw [List.getElem?_append_left (by simpa using hi), List.getElem?_map] at h
      cases e : ads[i]? with
      | none => rw [e] at h; cases h
      | some a =>
        rw [e] at h; cases h
        obtain ⟨v, h1, h2⟩ := r.get e
        have e2 : ((L2.start N vs)[i]?).join = some v := by
          unfold L2.start
          rw [List.getElem?_append_left (by simp; omega), List.getElem?_map, h1]; rfl
        rw [e2]
        cases a with
        | dat d => exact ⟨v, rfl, h2⟩
        | deck => obtain ⟨dk, cc, h3, h4⟩ := h2; exact ⟨dk, cc, h3, by rw [h4]⟩
    · rw [List.getElem?_append_right (by simpa using hi), List.getElem?_replicate] at h
      split at h
      · cases h; trivial
      · cases h
  · exfalso
    unfold startD at h
    by_cases hi : i < ads.length
    · rw [List.getElem?_append_left (by simpa using hi), List.getElem?_map] at h
      cases e : ads[i]? with
      | none => rw [e] at h; cases h
      | some a => rw [e] at h; cases a <;> cases h
    · rw [List.getElem?_append_right (by simpa using hi), List.getElem?_replicate] at h
      split at h <;> cases h

section
variable {P : Program} {w : World} {K : Frag} {mg : Str → Option Value} {base : Heap} {x qual : Str} {st : Stmt} {f : Addr} {fd : FuncData} {N ps : List Str} {k : Nat}
theorem fits_def (Sc : FnScope N ps (defScope st)) {cdv : Value} {A : Around} {outer : List Env} {s : Shared} {H : Hp} {E : XK} (hr : Room k (A.deeper (PyProof.Rows.envOfC qual (defScope st) s.heap.objs.size f cdv))) :
    Fits ⟨P, w, K, mg, base, N, defScope st, k, fun _ => true, false⟩ (cxOf CX0 P w K mg base N qual (defScope st) f cdv A outer s H E).nox :=
  ⟨rfl, rfl, rfl, rfl, rfl, rfl, rfl, rfl, hr, rfl, fun _ _ => rfl, Sc.nd, Sc.kind, fun h => (by cases h)⟩
theorem fits_defG (Sc : FnScope N ps (defScope st)) {cdv : Value} {A : Around} {outer : List Env} {s : Shared} {H : Hp} {E : XK} (hr : Room k (A.deeper (PyProof.Rows.envOfC qual (defScope st) s.heap.objs.size f cdv))) (hg : A.guards = some []) :
    Fits ⟨P, w, K, mg, base, N, defScope st, k, fun _ => true, true⟩ (cxOf CX0 P w K mg base N qual (defScope st) f cdv A outer s H E).nox :=
  ⟨rfl, rfl, rfl, rfl, rfl, rfl, rfl, rfl, hr, rfl, fun _ _ => rfl, Sc.nd, Sc.kind, fun _ => hg⟩
theorem pre_le (Sc : FnScope N ps (defScope st)) : ps.length ≤ N.length := by have := congrArg List.length Sc.pre; rw [List.length_take] at this; omega
theorem fn_mkD {Pc : List AD → (D → Prop) → Prop} (F : Fun K x qual st f fd) (Sc : FnScope N ps (defScope st)) (hl : ∀ ads R, Pc ads R → ads.length = ps.length)
    (body : ∀ (c : Ct) (ads : List AD) (R : D → Prop), Pc ads R → c.Z.given = none → Run ⟨P, w, K, mg, base, N, defScope st, k, fun _ => true, false⟩ c (defBody st) (startD ads N.length) { nx := fun _ => R .none, rt := R, ro := fun l => R (.list l) }) :
    FnOk P w K mg base CX0 (k + 1) f fd ps (spD K Pc) := by
  refine F.ok Sc (fun vs H Q E h => ?_) (fun cdv A outer s H vs Q E hr h => ?_)
  · obtain ⟨Z, G, ads, R, _, _, _, r, hc, _⟩ := h
    rw [r.length]; exact hl ads R hc
  · obtain ⟨Z, G, ads, R, hz, ex, hd, r, hc, q⟩ := h
    refine ⟨_, pss_w, ?_⟩
    refine body ⟨Z, G, H⟩ ads R hc hz _ (fits_def Sc hr) (start N vs) G H _ (State.start hz ex hd r (by rw [hl ads R hc]; exact pre_le Sc)) ⟨fun σ' G' H' ds' e s' n => q .non G' H' .none s'.drop .non n, fun _ _ _ _ _ _ z => z.elim, fun _ _ _ _ _ _ z => z.elim,
      fun v G' H' d s' r' n => q v G' H' d s' r' n, fun p xs G' H' l s' a1 a2 a3 a4 a5 a6 n => ?_, fun _ _ _ _ _ _ _ _ _ _ _ _ _ _ _ _ _ _ _ _ z => z.elim⟩
    have s2 : State K Z G H (upd G' p (.lst xs)) H' [] [] := State.know s' a5 a2 a3 (.inl a1) (fun i l h => by simp at h)
    exact q (.ref p) _ H' (.list l) s2 (.lst upd_same a4 (a6.mono (Ex.new a2))) n
theorem fn_mkF {Pc : List AD → (List D → Prop) → Prop} (F : Fun K x qual st f fd) (Sc : FnScope N ps (defScope st)) (hl : ∀ ads R, Pc ads R → ads.length = ps.length)
    (body : ∀ (c : Ct) (ads : List AD) (R : List D → Prop), Pc ads R → c.Z.given = none → Run ⟨P, w, K, mg, base, N, defScope st, k, fun _ => true, false⟩ c (defBody st) (startD ads N.length) { nx := fun _ => False, rt := fun _ => False, ro := R }) :
    FnOk P w K mg base CX0 (k + 1) f fd ps (spF K Pc) := by
  refine F.ok Sc (fun vs H Q E h => ?_) (fun cdv A outer s H vs Q E hr h => ?_)
  · obtain ⟨Z, G, ads, R, _, _, _, r, hc, _⟩ := h
    rw [r.length]; exact hl ads R hc
  · obtain ⟨Z, G, ads, R, hz, ex, hd, r, hc, q⟩ := h
    refine ⟨_, pss_w, ?_⟩
    exact body ⟨Z, G, H⟩ ads R hc hz _ (fits_def Sc hr) (start N vs) G H _ (State.start hz ex hd r (by rw [hl ads R hc]; exact pre_le Sc)) ⟨fun σ' G' H' ds' e s' n => n.elim, fun _ _ _ _ _ _ z => z.elim, fun _ _ _ _ _ _ z => z.elim,
      fun v G' H' d s' r' n => n.elim, fun p xs G' H' l s' a1 a2 a3 a4 a5 a6 n => q p xs G' H' l s' a1 a2 a3 a4 a5 a6 n, fun _ _ _ _ _ _ _ _ _ _ _ _ _ _ _ _ _ _ _ _ z => z.elim⟩
/-- a promise of a fresh list is one of data -/
theorem FnF.toD {I : Inf} {x : Str} {Pc : List AD → (List D → Prop) → Prop} {Pd : List AD → (D → Prop) → Prop} (h : FnF I x Pc) (hp : ∀ ads R, Pd ads R → ∃ R', Pc ads R' ∧ ∀ l, R' l → R (.list l)) : FnD I x Pd := by
  obtain ⟨f, fd, ps, h1, h2, h3, h4⟩ := h.ok
  refine ⟨f, fd, ps, h1, h2, h3, h4.imp fun vs H Q E q => ?_⟩
  obtain ⟨Z, G, ads, R, hz, ex, hd, r, hc, q⟩ := q
  obtain ⟨R', hc', hr⟩ := hp ads R hc
  refine ⟨Z, G, ads, R', hz, ex, hd, r, hc', fun p xs G' H' l s' np hg hnd hl hh r' n => ?_⟩
  have h00 : H p = none := np
  have s2 : State I.K Z G H (upd G' p (.lst xs)) H' [] [] := State.know s' hh hg hnd (.inl h00) (fun i l h => by simp at h)
  exact q (.ref p) _ H' (.list l) s2 (.lst upd_same hl (r'.mono (Ex.new hg))) (hr l n)
end
end Dl


set_option Elab.async false
set_option linter.all false
set_option maxRecDepth 100000
namespace Dl
open PySem PySem.W L2
section
variable {I : Inf} {c : Ct} {ds : List SD} {e a b : Expr} {es : List Expr} {P P' PA PB : D → Prop} {pos : Pos} {d : D} {A : After}

/-- f(e, ..), f a built-in function under a name of the module -/
theorem ev_gcd {x : Str} {p : Pos} {i j : Int} (hg : I.sc.names.lookup x = some .globalImplicit) (hm : I.mg x = some (.builtin "math.gcd")) (ha : EvE I c a ds (· = .int i)) (hb : EvE I c b ds (· = .int j))
    (hs : ∀ X, Fits I X → starEach [a, b] X.env = (false, eval a X.env) :: starEach [b] X.env := by intros; rfl) (hs2 : ∀ X, Fits I X → starEach [b] X.env = (false, eval b X.env) :: starEach [] X.env := by intros; rfl)
    (hpl : ∀ X, Fits I X → (backTo pos (starEach [b] X.env)).any (·.1) = false := by intros; rfl) (hdb : (x == ("__debug__" : Str)) = false := by decide) :
    EvE I c (.Call (.Name x p) [a, b] [] pos) ds (· = .int ((Nat.gcd i.natAbs j.natAbs : Nat) : Int)) := fun X F σ G H s Q k => by
  refine w_pe (pe_callBfun cr_gcd (by show X.env.scope.names.lookup x = _; rw [F.sc]; exact hg) (by rw [F.mg]; exact hm) (pa_cons pe_w (pa_cons pe_w pa_nil (hs2 X F)) (hs X F)) hdb (hs X F) (hpl X F)) ?_
  refine ha X F σ G H s _ fun x G1 H1 d x1 s1 r1 p1 => hb X F σ G1 H1 s1 _ fun y G2 H2 e x2 s2 r2 p2 => ?_
  subst p1; subst p2; rw [r1.int', r2.int']
  exact ⟨i, j, rfl, (k.mono (x1.trans x2)).now s2 .int rfl⟩
/-- a or b, a an int -/
theorem ev_orI {i : Int} {rest : List Expr} (ha : EvE I c a ds (· = .int i)) (h1 : i ≠ 0 → P (.int i)) (h2 : i = 0 → EvE I c (.BoolOp .Or (b :: rest) pos) ds P) : EvE I c (.BoolOp .Or (a :: b :: rest) pos) ds P := fun X F σ G H s Q k => by
  refine w_pe (pe_orT pe_w pe_w) (ha X F σ G H s _ fun x G1 H1 d x1 s1 r1 p1 => ?_)
  subst p1; rw [r1.int']
  refine ⟨i != 0, rfl, ?_⟩
  by_cases h : i = 0
  · subst h; exact iteF (h2 rfl X F σ G1 H1 s1 Q (k.mono x1))
  · have : (i != 0) = true := by simp [h]
    rw [this]; exact iteT ((k.mono x1).now s1 .int (h1 h))

/-! isinstance -/
def tyD : D → String
  | .none => "NoneType"
  | .bool _ => "bool"
  | .int _ => "int"
  | .str _ => "str"
  | .list _ => "list"
  | .tuple _ => "tuple"
  | .dict _ => "dict"
theorem Rp.ty {K : Frag} {G H : Hp} (e : Ex G H) {d : D} {v : V} (r : Rp K G d v) : TyX K H v (.type (tyD d)) := by
  cases d with
  | none => rw [r.non']; exact .base .non
  | bool b => rw [r.bl']; exact .base (.bl b)
  | int i => rw [r.int']; exact .base (.int i)
  | str x => rw [r.str']; exact .base (.str x)
  | list l => obtain ⟨a, xs, rfl, h1, _, _⟩ := r.lst'; exact .base (.lst (e _ _ h1))
  | tuple l =>
    obtain ⟨a, xs, rfl, h1, _, _⟩ := r.tup'
    rcases h1 with (h | ⟨o, h⟩) | ⟨o, its, n, h, hc, _⟩
    · exact .base (.tup (e _ _ h))
    · exact .fTuple (e _ _ h)
    · exact .kTuple h hc
  | dict l => unfold Rp at r; exact r.elim
theorem ev_isi {T : String} {x : Str} {p p2 : Pos} {r : Bool} (hg : I.sc.names.lookup ("isinstance" : Str) = some .globalImplicit) (hm : I.mg "isinstance" = none) (hgT : I.sc.names.lookup x = some .globalImplicit) (hmT : I.mg x = none) (hv : bootBuiltins x = some (.type T)) (ha : EvE I c a ds (· = d)) (hk : kitB (tyD d) T = some r)
    (hn : x ≠ "__name__" := by decide) (hdb : (x == ("__debug__" : Str)) = false := by decide)
    (hs : ∀ X, Fits I X → starEach [a, .Name x p2] X.env = (false, eval a X.env) :: starEach [.Name x p2] X.env := by intros; rfl)
    (hpl : ∀ X, Fits I X → (backTo pos (starEach [.Name x p2] X.env)).any (·.1) = false := by intros; rfl) :
    EvE I c (.Call (.Name "isinstance" p) [a, .Name x p2] [] pos) ds (· = .bool r) := fun X F σ G H s Q k => by
  have hb : bootBuiltins ("isinstance" : Str) = some (.builtin "isinstance") := by decide +kernel
  refine w_pe (pe_callB call_isi (by show X.env.scope.names.lookup _ = _; rw [F.sc]; exact hg) (by rw [F.mg]; exact hm) hb (pa_cons pe_w (pa_cons (pe_bltn (v := .ty T) (by show X.env.scope.names.lookup x = _; rw [F.sc]; exact hgT) (by rw [F.mg]; exact hmT) hv rfl hn hdb) pa_nil) (hs X F)) (by decide) (by decide) (hs X F) (hpl X F)) ?_
  refine ha X F σ G H s _ fun v G1 H1 d' x1 s1 r1 p1 => ?_
  subst p1
  exact ⟨v, .ty T, .type (tyD d'), .type T, r, rfl, .ty T, by rw [F.K]; exact Rp.ty s1.ex r1, kit_ty hk, (k.mono x1).now s1 .bl rfl⟩

/-! max(ints, default = 0) -/
def rMaxDef (K : Frag) : List V → List V → Hp → VK → Prop := fun vs zs H Q => ∃ (p : Addr) (ns : List Int) (dv : V), vs = [.ref p] ∧ zs = [dv] ∧ SqL K H p (ns.map V.int) ∧ (ns = [] → Q dv H) ∧ ∀ n r, ns = n :: r → Q (.int (r.foldl max n)) H
theorem dpAll_ints {K : Frag} {H : Hp} : ∀ ns : List Int, DpAll K H (ns.map V.int) (ns.map PyData.int)
  | [] => .nil
  | n :: ns => .cons (.int n) (dpAll_ints ns)
theorem depth_ints : ∀ ns : List Int, PyData.depthAll (ns.map PyData.int) ≤ 1
  | [] => by simp [PyData.depthAll]
  | n :: ns => by
    have := depth_ints ns
    simp [PyData.depthAll, PyData.depth]; omega
theorem cr_maxDef {X : Cx} (hc : X.calm = true) (hu : X.A.units + 64 < cLine) : CallRK X (.builtin "max") [Str.ofString "default"] (rMaxDef X.K) := by
  intro pins s σ H xs zs us ws Q I r rz h
  obtain ⟨p, ns, dv, rfl, rfl, hs, h0, h1⟩ := h
  rw [Vals.ref1 r]
  obtain ⟨wv, rfl, rd⟩ := vals1 rz
  obtain ⟨its, rv, hl, hlen⟩ := I.list hs
  obtain ⟨as, hr⟩ := Dp.readsAll I (ns.map PyData.int) _ _ (dpAll_ints ns) rv
  have hd := depth_ints ns
  have hal : AlikeAll (ns.map PyData.int) := by
    refine ⟨fun x hx y hy => ?_, fun x hx => ?_⟩
    · obtain ⟨i, _, rfl⟩ := List.mem_map.mp hx
      obtain ⟨j, _, rfl⟩ := List.mem_map.mp hy
      rfl
    · obtain ⟨i, _, rfl⟩ := List.mem_map.mp hx
      exact fun z => nomatch z
  refine max_list_default (I.ok.hd hc) hl.isList hr hal (by omega) (fun e h' tk hk => ?_) (fun y ys i v h' tk bs e hi hrd hk => ?_)
  · have : ns = [] := by cases ns with | nil => rfl | cons _ _ => cases e
    exact ⟨dv, H, I.kept hk, rd, h0 this⟩
  · cases ns with
    | nil => cases e
    | cons n r =>
      rw [List.map_cons] at e
      injection e with e1 e2
      subst e1; subst e2
      rw [maxD_ints] at hrd
      cases hrd
      exact ⟨.int _, H, I.kept hk, ⟨_, rfl⟩, h1 n r rfl⟩
def maxZ : List Int → Int
  | [] => 0
  | n :: r => r.foldl max n
theorem ev_maxDef0 {ns : List Int} {p p3 p4 : Pos} {j : Nat} (hg : I.sc.names.lookup ("max" : Str) = some .globalImplicit) (hm : I.mg "max" = none) (ha : EvE I c a ds (· = .list (ns.map PyData.int)))
    (hs : ∀ X, Fits I X → starEach [a] X.env = (false, eval a X.env) :: starEach [] X.env := by intros; rfl)
    (he : ∀ X, Fits I X → backTo pos (starEach [a] X.env) = (false, eval a X.env) :: backTo pos (starEach [] X.env) := by intros; rfl) (hpl : ∀ X, Fits I X → (backTo pos (starEach [a] X.env)).any (·.1) = false := by intros; rfl) :
    EvE I c (.Call (.Name "max" p) [a] [⟨some ("default" : Str), .Constant (.int 0) j p3, p4⟩] pos) ds (· = .int (maxZ ns)) := fun X F σ G H s Q k => by
  have hb : bootBuiltins ("max" : Str) = some (.builtin "max") := by decide +kernel
  refine w_pe (pe_callBK (cr_maxDef F.calm F.room.units) (by show X.env.scope.names.lookup _ = _; rw [F.sc]; exact hg) (by rw [F.mg]; exact hm) hb (pa_cons pe_w pa_nil (hs X F)) (pk_cons pe_int pk_nil) (he := he X F) (hpl := hpl X F)) ?_
  refine ha X F σ G H s _ fun v G1 H1 d' x1 s1 r1 p1 => ?_
  subst p1
  obtain ⟨q, xs, rfl, h1, h2, h3⟩ := r1.lst'
  rw [RpA.ints] at h3; subst h3
  refine ⟨q, ns, .int 0, rfl, rfl, SqL.of (s1.ex _ _ h1), fun e => ?_, fun n r e => ?_⟩
  · subst e; exact (k.mono x1).now s1 .int rfl
  · subst e; exact (k.mono x1).now s1 .int rfl
/-- xs.index(n), of ints, n among them -/
theorem ev_indexI {ns : List Int} {i : Int} {p2 p3 : Pos} (ha : EvE I c a ds (· = .list (ns.map PyData.int))) (hb : EvE I c b ds (· = .int i)) (h : i ∈ ns)
    (hbase : ∀ X, Fits I X → attributeBase a ("index" : Str) X.env (eval a X.env) = eval a X.env := by intros; rfl)
    (hfew : ∀ X, Fits I X → (((backTo p3 (starEach [b] X.env)).all fun x => !x.1) && (backToKw p3 (keywordEach [] X.env)).all (fun x => x.1.isSome) && decide ([b].length + ([] : List Keyword).length + (if ([] : List Keyword).isEmpty then 0 else 1) < 30)) = true := by intros; rfl)
    (hline : (p2.endLine == p3.line) = true := by rfl) (hs : ∀ X, Fits I X → starEach [b] X.env = (false, eval b X.env) :: starEach [] X.env := by intros; rfl) :
    EvE I c (.Call (.Attribute a ("index" : Str) p2) [b] [] p3) ds (· = .int (ns.idxOf i : Nat)) := fun X F σ G H s Q k => by
  refine w_pe (pe_bm PySem.F.plainAttrs_list PySem.F.slot_list_index (by with_unfolding_all rfl) mt_index (pe_w (e := a)) (pa_cons (pe_w (e := b)) pa_nil (hs X F)) (hbase := hbase X F) (hfew := hfew X F) (hline := hline) (hs := hs X F)) ?_
  refine ha X F σ G H s _ fun v G1 H1 d' x1 s1 r1 p1 => ?_
  subst p1
  obtain ⟨q, xs, rfl, h1, h2, h3⟩ := r1.lst'
  rw [RpA.ints] at h3; subst h3
  refine ⟨.inl ⟨rfl, _, SqL.of (s1.ex _ _ h1)⟩, hb X F σ G1 H1 s1 _ fun w G2 H2 d2 x2 s2 r2 p2 => ?_⟩
  subst p2; rw [r2.int']
  have hj : ns.idxOf i < ns.length := List.idxOf_lt_length_of_mem h
  refine ⟨q, ns.map V.int, .int i, ns.idxOf i, .int i, rfl, rfl, SqL.of (s2.ex _ _ (x2.g _ _ h1)), rfl, by simp [flatV], ?_, by simp [eqV], fun m z hm hz => ?_, (k.mono (x1.trans x2)).now s2 .int rfl⟩
  · rw [List.getElem?_map, List.getElem?_eq_getElem hj, List.getElem_idxOf hj]; rfl
  · rw [List.getElem?_map] at hz
    cases e : ns[m]? with
    | none => rw [e] at hz; cases hz
    | some n =>
      rw [e] at hz; cases hz
      have hml := (List.getElem?_eq_some_iff.mp e)
      obtain ⟨hl, hn⟩ := hml
      have : n ≠ i := by
        intro h; subst h
        have := List.not_of_lt_findIdx (p := (· == n)) (xs := ns) (i := m) (by unfold List.idxOf at hm; exact hm)
        simp [hn] at this
      simp [eqV, this]

/-! starred arguments -/
theorem ea_star {p : Pos} {m : List D} {R : List D → Prop} (h : EvE I c e ds (· = d)) (hd : d = .list m ∨ d = .tuple m) (hr : EvA I c es ds R)
    (hs : ∀ X, Fits I X → starEach (.Starred e p :: es) X.env = (true, eval e X.env) :: starEach es X.env := by intros; rfl) : EvA I c (.Starred e p :: es) ds (fun t => ∃ l, R l ∧ t = m ++ l) := fun X F σ G H s Q k =>
  w_pa (StX.pa_star pe_w pa_w (hs X F)) (h X F σ G H s _ fun v G1 H1 d' x1 s1 r1 p1 => by
    subst p1
    rcases hd with rfl | rfl
    · obtain ⟨q, xs, rfl, h1, _, h3⟩ := r1.lst'
      exact ⟨q, xs, rfl, .inr (SqL.of (s1.ex _ _ h1)), hr X F σ G1 H1 s1 _ fun vs G2 H2 l x2 s2 r2 p2 => k _ G2 H2 (m ++ l) (x1.trans x2) s2 ((h3.mono x2.g).append r2) ⟨l, p2, rfl⟩⟩
    · obtain ⟨q, xs, rfl, h1, _, h3⟩ := r1.tup'
      exact ⟨q, xs, rfl, .inl (by rw [F.K]; exact ex_t s1.ex h1), hr X F σ G1 H1 s1 _ fun vs G2 H2 l x2 s2 r2 p2 => k _ G2 H2 (m ++ l) (x1.trans x2) s2 ((h3.mono x2.g).append r2) ⟨l, p2, rfl⟩⟩)
end
end Dl


set_option Elab.async false
set_option linter.all false
set_option maxRecDepth 100000
set_option maxHeartbeats 4000000
namespace Dl
open PySem PySem.Spec PyProof.Rows L2
/-- t * 1 is t -/
theorem tuple_mul1 (l : Addr) (items : Array Value) (n : Nat) (dd : Option Addr) (sl : Array (Option Value)) (x : Int) (u : Tok) (c0 : (decide (x < -(2 ^ 63)) || decide (x ≥ 2 ^ 63)) = false) (c1 : (items.isEmpty || x == 1) = true) :
    Meets (Builtin.«tuple.__mul__» ⟨[.ref l, .int x u], []⟩) (fun _ R s => s.heap.get? l = some { cls := .type "tuple", dict := dd, data := .seq items n, slots := sl } ∧ R (.ok (.ret (Value.ref l))) s) :=
  .of_wp fun prog w A R s h => by
    obtain ⟨hp, g, d, tk, os⟩ := s
    obtain ⟨hl, h⟩ := h
    have f1 := AutoSeq1.idx_int
    wp_walk using wpAny_loadPart' hl
    repeat (first
      | (refine wpAny_ite_false (decide_eq_false (by rw [c0]; exact Bool.false_ne_true)) ?_; wp_walk using wpAny_loadPart' hl)
      | (refine wpAny_ite_true (decide_eq_true c1) ?_; wp_walk using wpAny_loadPart' hl))
    exact ⟨_, rfl, h⟩
theorem tuple_mul0 (l : Addr) (items : Array Value) (n : Nat) (dd : Option Addr) (sl : Array (Option Value)) (x : Int) (u : Tok) (c0 : (decide (x < -(2 ^ 63)) || decide (x ≥ 2 ^ 63)) = false) (c1 : (items.isEmpty || x == 1) = false) (c2 : (decide (x ≤ 0) || items.isEmpty) = true) :
    Meets (Builtin.«tuple.__mul__» ⟨[.ref l, .int x u], []⟩) (fun _ R s => s.heap.get? l = some { cls := .type "tuple", dict := dd, data := .seq items n, slots := sl } ∧
      R (.ok (.ret (Value.ref s.heap.objs.size))) { s with heap := s.heap.push { cls := Value.type "tuple", data := Data.seq #[] }, toks := s.toks }) :=
  .of_wp fun prog w A R s h => by
    obtain ⟨hp, g, d, tk, os⟩ := s
    obtain ⟨hl, h⟩ := h
    have f1 := AutoSeq1.idx_int
    wp_walk using wpAny_loadPart' hl
    repeat (first
      | (refine wpAny_ite_false (decide_eq_false (by rw [c0]; exact Bool.false_ne_true)) ?_; wp_walk using wpAny_loadPart' hl)
      | (refine wpAny_ite_false (decide_eq_false (by rw [c1]; exact Bool.false_ne_true)) ?_; wp_walk using wpAny_loadPart' hl)
      | (refine wpAny_ite_true (decide_eq_true c2) ?_; wp_walk using wpAny_loadPart' hl))
    exact ⟨_, rfl, h⟩
section
variable {X : Cx}
def rRepA (K : PySem.W.Frag) : R2 := fun x y H Q => ∃ l k xs, x = .ref l ∧ y = .int k ∧ SqT K H l xs ∧ -(2 ^ 63) ≤ k ∧ k ≤ 1000 ∧ xs.length ≤ 1000 ∧
  (xs = [] ∨ k = 1 → Q (.ref l) H) ∧ (xs ≠ [] → k ≤ 0 → ∀ p, H p = none → Q (.ref p) (upd H p (.tup []))) ∧ (xs ≠ [] → 2 ≤ k → ∀ p, H p = none → Q (.ref p) (upd H p (.tup (List.replicate k.toNat xs).flatten)))
theorem op_repA : OpR X (binaryOp .Mult) (rRepA X.K) := by
  intro pins s σ H x y v u Q I rx ry h
  obtain ⟨l, k, xs, rfl, rfl, hT, hlo, hhi, hz, q1, q0, q2⟩ := h
  by_cases h2 : xs ≠ [] ∧ 2 ≤ k
  · exact op_repT pins s σ H _ _ v u Q I rx ry ⟨l, k, xs, rfl, rfl, hT, h2.1, h2.2, hhi, hz, q2 h2.1 h2.2⟩
  cases rx
  obtain ⟨t, rfl⟩ := ry
  obtain ⟨its, r, ⟨⟨cls, dd, data, sl⟩, ho, hc, n, hd⟩, hs⟩ := I.tuple hT
  simp only at hc hd
  subst hc hd
  have hle : its.length = xs.length := r.length.symm
  have c0 : (decide (k < -(2 ^ 63)) || decide (k ≥ 2 ^ 63)) = false := by
    rw [decide_eq_false (by omega), decide_eq_false (by omega)] <;> rfl
  have emp : its.toArray.isEmpty = xs.isEmpty := by
    cases r with
    | nil => rfl
    | cons _ _ => rfl
  by_cases h1 : xs = [] ∨ k = 1
  · have c1 : (its.toArray.isEmpty || k == 1) = true := by
      rw [emp]
      rcases h1 with h | h
      · subst h; rfl
      · subst h; simp
    refine wpAny_binaryOp_repeat_ref (T := "tuple") (U := "int") (by decide) ⟨_, ho, rfl⟩ (fun s' => typeIs_int s' k t) noFill_tuple_mul F.fills_int_mul F.slot_int_rmul repeat_tuple F.slot_int_index.lookup
      (call_meets F.slot_int_rmul (typeIs_int s k t) F.entry_int_rmul (F.args_int_rmul_2 _ _) (int_rmul_tuple k t l its.toArray n dd sl)
        ⟨ho, rfl, ⟨_, ho, rfl⟩, call_meets F.slot_tuple_mul ⟨_, ho, rfl⟩ F.entry_tuple_mul (F.args_tuple_mul_2 _ _) (tuple_mul1 l its.toArray n dd sl k t c0 c1) ⟨ho, ?_⟩⟩)
    exact ⟨.ref l, H, I, rfl, q1 h1⟩
  · have hx : xs ≠ [] := fun e => h1 (.inl e)
    have hk : k ≤ 0 := by
      rcases Int.lt_or_le 0 k with h | h
      · exfalso
        have : k ≠ 1 := fun e => h1 (.inr e)
        exact h2 ⟨hx, by omega⟩
      · exact h
    have hne : xs.isEmpty = false := by cases xs with | nil => exact absurd rfl hx | cons _ _ => rfl
    have c1 : (its.toArray.isEmpty || k == 1) = false := by
      rw [emp, hne, Bool.false_or]; exact beq_eq_false_iff_ne.mpr (by omega)
    have c2 : (decide (k ≤ 0) || its.toArray.isEmpty) = true := by rw [decide_eq_true hk]; rfl
    refine wpAny_binaryOp_repeat_ref (T := "tuple") (U := "int") (by decide) ⟨_, ho, rfl⟩ (fun s' => typeIs_int s' k t) noFill_tuple_mul F.fills_int_mul F.slot_int_rmul repeat_tuple F.slot_int_index.lookup
      (call_meets F.slot_int_rmul (typeIs_int s k t) F.entry_int_rmul (F.args_int_rmul_2 _ _) (int_rmul_tuple k t l its.toArray n dd sl)
        ⟨ho, rfl, ⟨_, ho, rfl⟩, call_meets F.slot_tuple_mul ⟨_, ho, rfl⟩ F.entry_tuple_mul (F.args_tuple_mul_2 _ _) (tuple_mul0 l its.toArray n dd sl k t c0 c1 c2) ⟨ho, ?_⟩⟩)
    refine ⟨.ref s.heap.objs.size, _, I.laid (t' := s.toks) (o := .tup []) (fun b ob q => Heap.get?_push_of_some _ q) (Nat.le_refl _) ?_, rfl, q0 hx hk _ (I.hok.fresh (Nat.le_refl _))⟩
    exact ⟨Nat.zero_le _, [], .nil, IsTup.new _ _⟩
end
section
variable {I : Inf} {c : Ct} {ds : List SD} {a b : Expr} {P PA PB : D → Prop} {pos : Pos}
theorem ev_repTP (ha : EvE I c a ds PA) (hb : EvE I c b ds PB) (h : ∀ x y, PA x → PB y → ∃ l n, x = .tuple l ∧ y = .int n ∧ -(2 ^ 63) ≤ n ∧ n ≤ 1000 ∧ l.length ≤ 100 ∧ P (.tuple (List.replicate n.toNat l).flatten)) :
    EvE I c (.BinOp a .Mult b pos) ds P :=
  ev_op (r := rRepA I.K) (fun X F => by have := op_repA (X := X); rw [F.K] at this; exact this) ha hb fun d e pd pe σ G H x y s rx ry Q k => by
    obtain ⟨l, n, rfl, rfl, h1, h2, h3, hp⟩ := h d e pd pe
    obtain ⟨a1, xs, rfl, h4, l1, r1⟩ := rx.tup'
    rw [ry.int']
    have hl := r1.length
    have e : ((List.replicate n.toNat l).flatten).length = l.length * n.toNat := by simp [List.length_flatten, List.map_replicate, List.sum_replicate_nat, Nat.mul_comm]
    have hb : l.length * n.toNat ≤ 100 * 1000 := Nat.mul_le_mul h3 (by omega)
    refine ⟨a1, n, xs, rfl, rfl, ex_t s.ex h4, h1, h2, by omega, fun z => ?_, fun z hn p np => ?_, fun z hn p np => ?_⟩
    · have : (List.replicate n.toNat l).flatten = l := by
        rcases z with z | z
        · have : l = [] := List.eq_nil_of_length_eq_zero (by rw [← hl, z]; rfl)
          subst this; simp
        · subst z; simp
      rw [this] at hp
      exact k.now s rx hp
    · have : (List.replicate n.toNat l).flatten = [] := by
        rw [show n.toNat = 0 from by omega]; rfl
      rw [this] at hp
      obtain ⟨s4, x4⟩ := s.laid (o := .tup []) np
      exact k _ _ _ _ x4 s4 (.tup (SqT.of upd_same) (Nat.zero_le _) .nil) hp
    · obtain ⟨s4, x4⟩ := s.laid (o := .tup (List.replicate n.toNat xs).flatten) np
      exact k _ _ _ _ x4 s4 (.tup (SqT.of upd_same) (by rw [e]; exact hb) ((r1.rep _).mono x4.g)) hp
theorem ev_repT {l : List D} {n : Int} (ha : EvE I c a ds (· = .tuple l)) (hb : EvE I c b ds (· = .int n)) (h1 : -(2 ^ 63) ≤ n) (h2 : n ≤ 1000) (h3 : l.length ≤ 100) : EvE I c (.BinOp a .Mult b pos) ds (· = .tuple (List.replicate n.toNat l).flatten) :=
  ev_repTP ha hb fun x y hx hy => ⟨l, n, hx, hy, h1, h2, h3, rfl⟩
end
end Dl


set_option Elab.async false
set_option linter.all false
namespace Dl
open PySem L2
section
variable {I : Inf} {c : Ct} {ds : List SD} {e a b : Expr} {P PA PB : D → Prop} {pos : Pos} {A : After} {PL : List D → Prop}
theorem rs_retF (h : EvF I c e ds PL) (hr : ∀ l, PL l → A.ro l) : RunS I c (.Return (some e) pos) ds A := fun X F σ G H E s k =>
  w_ps (ps_ret pe_w) (h X F σ G H s _ fun p xs G1 H1 l x1 s1 np hg hd hl hh r1 p1 => k.ro p xs G1 H1 l s1.drop (S.h0none s np) hg hd hl hh r1 (hr l p1))
/-- name = [.. for ..] on one line, the name a plain local -/
theorem rs_setLc {i : Nat} {y : Str} {py : Pos} {elt tg iter : Expr} {ifs : List Expr} {scope : Scope} {spos : Pos} (own : List (Str × Nat)) {asg : D → List (Nat × D) → Prop} {PL : List D → Prop} {keep : D → Bool} {R : D → D → Prop}
    (hN : I.N[i]? = some y) (hyl : I.sc.names.lookup y = some .local) (hl1 : (py.line == pos.line) = true) (hny : (scope.names.any fun (n, k) => n == y && (k == .local || k == .cell)) = false)
    (hb : blkC I.N I.sc scope own = true) (hw : Walk I c tg iter ds PL) (ht : TgE (I.blk scope) tg asg) (hl : ∀ items, PL items → items.length ≤ Lm)
    (he : ∀ items, PL items → ∀ d ∈ items, ∃ as, asg d as ∧ (∀ q ∈ as, q.1 ∈ own.map (fun x : Str × Nat => x.2)) ∧ EvIs (I.blk scope) c ifs (setDs (wipeDs ds (own.map (fun x : Str × Nat => x.2))) as) (keep d) ∧ (keep d = true → EvE (I.blk scope) c elt (setDs (wipeDs ds (own.map (fun x : Str × Nat => x.2))) as) (R d)))
    (hn : ∀ items l, PL items → Made keep R items l → A.nx (ds.set i (.dat (.list l))))
    (hs : ∀ X, Fits I X → ∀ x, foldedSetIterable iter X.env x = pure x := by intros; rfl) :
    RunS I c (.Assign [.Name y py] (.ListComp elt [⟨tg, iter, ifs, 0⟩] scope pos) spos) ds A := fun X F σ G H E s k => by

  obtain ⟨wi, hi, qi⟩ := hw X F
  obtain ⟨g, hg, qg⟩ := ht
  have hk : scope.kind = .function := (blkOk_by hb).kind
  -- the value is told by ef_lc; the store by the layer's own rule, over the meaning of the whole comprehension
  have key : tLc wi g (uI (I.blk scope) ifs) (uE (I.blk scope) elt) (own.map (fun x : Str × Nat => x.2)) σ H (fun v H1 => gName i v σ H1 E.nx) := by
    have := ef_lc_core own hb hi qi hg qg hl he X F σ G H s
    exact this (fun v H1 => gName i v σ H1 E.nx) (fun p xs G1 H1 l x1 s1 np hgp hd hll hh r1 ⟨items, pl, made⟩ => by
      have no := s.noOwn np
      have s2 : S I c (upd G1 p (.lst xs)) H1 σ ds := State.know s1 hh hgp hd (.inl (S.h0none s np)) no
      exact k.nx _ (upd G1 p (.lst xs)) H1 _ (x1.g.trans (Ex.new hgp)) (State.set s2 (i := i) (sd := .dat (.list l)) rfl ⟨_, rfl, .lst upd_same hll (r1.mono (Ex.new hgp))⟩) (hn items l pl made))
  exact w_ps (ps_setLc (own := own) F.calm (by rw [F.N]; exact F.nd) (by rw [F.N]; exact hN) (by rw [F.sc]; exact hyl) (sw_true (by rw [F.sc]; exact F.kind) (by rw [F.sc]; exact hyl) hl1 hny) hi (by rw [F.N, F.sc]; exact blkOk_by hb)
    (fun s H C cl fp => hg _ (F.blk hk s H C cl fp)) (fun s H C cl fp => pts_u (F.blk hk s H C cl fp)) (fun s H C cl fp => pe_u (F.blk hk s H C cl fp)) (hs X F)) key
end
end Dl
namespace Dl
open PySem L2
section
variable {I : Inf} {c : Ct} {ds : List SD} {pos : Pos}
/-- [f(d) for d in items] -/
theorem ef_map {elt tg iter : Expr} {scope : Scope} (own : List (Str × Nat)) {asg : D → List (Nat × D) → Prop} {items : List D} (f : D → D)
    (hb : blkC I.N I.sc scope own = true) (hw : Walk I c tg iter ds (· = items)) (ht : TgE (I.blk scope) tg asg) (hl : items.length ≤ Lm)
    (he : ∀ d ∈ items, ∃ as, asg d as ∧ (∀ q ∈ as, q.1 ∈ own.map (fun x : Str × Nat => x.2)) ∧ EvE (I.blk scope) c elt (setDs (wipeDs ds (own.map (fun x : Str × Nat => x.2))) as) (· = f d))
    (hs : ∀ X, Fits I X → ∀ x, foldedSetIterable iter X.env x = pure x := by intros; rfl) :
    EvF I c (.ListComp elt [⟨tg, iter, [], 0⟩] scope pos) ds (· = items.map f) := fun X F σ G H s Q k =>
  ef_lc (pos := pos) own (keep := fun _ => true) (R := fun x y => y = f x) hb hw ht (fun l e => by rw [e]; exact hl) (fun l e d hd => by
    subst e
    obtain ⟨as, h1, h2, h3⟩ := he d hd
    exact ⟨as, h1, h2, ei_nil, fun _ => h3⟩) hs X F σ G H s Q fun p xs G' H' l x1 s1 np hg hd hl' hh r ⟨it, e, made⟩ => k p xs G' H' l x1 s1 np hg hd hl' hh r (by subst e; exact made.map)
/-- [f(d) for d in items if keep(d)] -/
theorem ef_filter {elt tg iter t : Expr} {scope : Scope} (own : List (Str × Nat)) {asg : D → List (Nat × D) → Prop} {items : List D} (keep : D → Bool) (f : D → D)
    (hb : blkC I.N I.sc scope own = true) (hw : Walk I c tg iter ds (· = items)) (ht : TgE (I.blk scope) tg asg) (hl : items.length ≤ Lm)
    (he : ∀ d ∈ items, ∃ as, asg d as ∧ (∀ q ∈ as, q.1 ∈ own.map (fun x : Str × Nat => x.2)) ∧ EvT (I.blk scope) c t (setDs (wipeDs ds (own.map (fun x : Str × Nat => x.2))) as) (· = keep d) ∧ (keep d = true → EvE (I.blk scope) c elt (setDs (wipeDs ds (own.map (fun x : Str × Nat => x.2))) as) (· = f d)))
    (hs : ∀ X, Fits I X → ∀ x, foldedSetIterable iter X.env x = pure x := by intros; rfl) :
    EvF I c (.ListComp elt [⟨tg, iter, [t], 0⟩] scope pos) ds (· = (items.filter keep).map f) := fun X F σ G H s Q k =>
  ef_lc (pos := pos) own (keep := keep) (R := fun x y => y = f x) hb hw ht (fun l e => by rw [e]; exact hl) (fun l e d hd => by
    subst e
    obtain ⟨as, h1, h2, h3, h4⟩ := he d hd
    exact ⟨as, h1, h2, ei_one h3, h4⟩) hs X F σ G H s Q fun p xs G' H' l x1 s1 np hg hd hl' hh r ⟨it, e, made⟩ => k p xs G' H' l x1 s1 np hg hd hl' hh r (by subst e; exact made.filterMap)
/-- a fresh list as data -/
theorem ev_lc {e : Expr} {l : List D} (h : EvF I c e ds (· = l)) : EvE I c e ds (· = .list l) := ev_fresh h fun m hm => by rw [hm]
/-- the function on data that a function on ints is -/
def intF (g : Int → Int) : D → D
  | .int n => .int (g n)
  | d => d
theorem map_intF (g : Int → Int) (ns : List Int) : (ns.map PyData.int).map (intF g) = (ns.map g).map PyData.int := by
  rw [List.map_map, List.map_map]; rfl
end
end Dl


set_option Elab.async false
set_option linter.all false
namespace Dl
open PySem L2
section
variable {I : Inf} {c : Ct} {ds : List SD} {a b : Expr} {pos : Pos} {A : After} {P PA PB : D → Prop} {PL : List D → Prop}
/-- x, y = a, b -/
theorem rs_par {i j : Nat} {x y : Str} {px py pt : Pos} {kt k2 pt2} (hi : I.N[i]? = some x) (hj : I.N[j]? = some y) (hij : i ≠ j) (hx : I.sc.names.lookup x = some .local) (hy : I.sc.names.lookup y = some .local)
    (ha : EvE I c a ds PA) (hb : EvE I c b ds PB) (hn : ∀ d e, PA d → PB e → A.nx ((ds.set i (.dat d)).set j (.dat e)))
    (hs1 : ∀ X, Fits I X → starEach [a, b] X.env = (false, eval a X.env) :: starEach [b] X.env := by intros; rfl) (hs2 : ∀ X, Fits I X → starEach [b] X.env = (false, eval b X.env) :: starEach [] X.env := by intros; rfl)
    (hw : ∀ env : Env, env.scope = I.sc → swappedStores [.Tuple [.Name x px, .Name y py] kt pt] (.Tuple [a, b] k2 pt2) env = pure (some [x, y]) := by intro env h; cases env; dsimp only at h; subst h; rfl)
    (hs : ∀ X, Fits I X → swapsWithSole [.Tuple [.Name x px, .Name y py] kt pt] (.Tuple [a, b] k2 pt2) pos.line X.env = pure false := by intros; rfl) :
    RunS I c (.Assign [.Tuple [.Name x px, .Name y py] kt pt] (.Tuple [a, b] k2 pt2) pos) ds A := fun X F σ G H E s k => by
  refine w_ps (ps_par (i := i) (j := j) F.calm (by rw [F.N]; exact F.nd) (by rw [F.N]; exact hi) (by rw [F.N]; exact hj) hij (by rw [F.sc]; exact hx) (by rw [F.sc]; exact hy) (pa_cons pe_w (pa_cons pe_w pa_nil (hs2 X F)) (hs1 X F)) (hw X.env F.sc) (hs X F)) ?_
  refine ha X F σ G H s _ fun v G1 H1 d x1 s1 r1 p1 => hb X F σ G1 H1 s1 _ fun w G2 H2 e x2 s2 r2 p2 => ?_
  refine ⟨v, w, rfl, k.nx _ G2 H2 _ (x1.g.trans x2.g) ?_ (hn d e p1 p2)⟩
  exact State.set (State.set s2 (i := i) (sd := .dat d) rfl ⟨v, rfl, r1.mono x2.g⟩) (i := j) (sd := .dat e) rfl ⟨w, rfl, r2⟩
/-- x, y = a, b, a a fresh list -/
theorem rs_parF {i j : Nat} {x y : Str} {px py pt : Pos} {kt k2 pt2} (hi : I.N[i]? = some x) (hj : I.N[j]? = some y) (hij : i ≠ j) (hx : I.sc.names.lookup x = some .local) (hy : I.sc.names.lookup y = some .local)
    (ha : EvF I c a ds PL) (hb : EvE I c b ds PB) (hn : ∀ l e, PL l → PB e → A.nx ((ds.set i (.own l)).set j (.dat e)))
    (hs1 : ∀ X, Fits I X → starEach [a, b] X.env = (false, eval a X.env) :: starEach [b] X.env := by intros; rfl) (hs2 : ∀ X, Fits I X → starEach [b] X.env = (false, eval b X.env) :: starEach [] X.env := by intros; rfl)
    (hw : ∀ env : Env, env.scope = I.sc → swappedStores [.Tuple [.Name x px, .Name y py] kt pt] (.Tuple [a, b] k2 pt2) env = pure (some [x, y]) := by intro env h; cases env; dsimp only at h; subst h; rfl)
    (hs : ∀ X, Fits I X → swapsWithSole [.Tuple [.Name x px, .Name y py] kt pt] (.Tuple [a, b] k2 pt2) pos.line X.env = pure false := by intros; rfl) :
    RunS I c (.Assign [.Tuple [.Name x px, .Name y py] kt pt] (.Tuple [a, b] k2 pt2) pos) ds A := fun X F σ G H E s k => by
  refine w_ps (ps_par (i := i) (j := j) F.calm (by rw [F.N]; exact F.nd) (by rw [F.N]; exact hi) (by rw [F.N]; exact hj) hij (by rw [F.sc]; exact hx) (by rw [F.sc]; exact hy) (pa_cons pe_w (pa_cons pe_w pa_nil (hs2 X F)) (hs1 X F)) (hw X.env F.sc) (hs X F)) ?_
  refine ha X F σ G H s _ fun p xs G1 H1 l x1 s1 np hg hd hl hh r1 p1 => hb X F σ G1 H1 s1 _ fun w G2 H2 e x2 s2 r2 p2 => ?_
  have hg2 : G2 p = none := by
    cases z : G2 p with
    | none => rfl
    | some o =>
      rcases x2.nw p (by rw [z]; exact fun q => nomatch q) with q | q
      · exact absurd hg q
      · rw [hh] at q; cases q
  have so := own_new (i := i) s s2 np hg2 hl (x2.h _ _ hh hd) (r1.mono x2.g)
  exact ⟨.ref p, w, rfl, k.nx _ G2 H2 _ (x1.g.trans x2.g) (State.set so (i := j) (sd := .dat e) rfl ⟨w, rfl, r2⟩) (hn l e p1 p2)⟩
theorem ev_eqI {i j : Int} (ha : EvE I c a ds (· = .int i)) (hb : EvE I c b ds (· = .int j)) : EvE I c (.Compare a [.Eq] [b] pos) ds (· = .bool (decide (i = j))) :=
  ev_cmp (fun _ _ => op_eq) (nobehind _ (by decide) (by decide)) ha hb fun d e hi hj => by
    rw [hi, hj]; intro σ G H x y s rx ry Q k; rw [rx.int', ry.int']
    refine ⟨rfl, k.now s .bl ?_⟩
    congr 1; exact decide_eq_decide.mpr ⟨fun h => by injection h, fun h => by rw [h]⟩
end
end Dl


set_option Elab.async false
set_option linter.all false
namespace Dl
open PySem L2
/-- the first argument is a list that is given away; a tuple comes back whose third item is a fresh list -/
def spG (K : Frag) (Pc : List D → List AD → (D → D → List D → Prop) → Prop) : Sp := fun vs H Q _ => ∃ (Z : Zone) (G : Hp) (p : Addr) (xs : List V) (l : List D) (ws : List V) (ads : List AD) (R : D → D → List D → Prop),
  vs = .ref p :: ws ∧ Z.given = some p ∧ Ex G H ∧ DeckIn Z G H ∧ G p = none ∧ ¬ inDeck Z p ∧ H p = some (.lst xs) ∧ RpA K G l xs ∧ l.length ≤ Lm ∧ ArgsRp K Z G ads ws ∧ Pc l ads R ∧
  ∀ t b xs v1 v2 G' H' d1 d2 l', State K Z G H G' H' [] [] → H b = none → G' b = none → ¬ inDeck Z b → l'.length ≤ Lm → H' b = some (.lst xs) → RpA K G' l' xs → H' t = some (.tup [v1, v2, .ref b]) → Rp K G' d1 v1 → Rp K G' d2 v2 → R d1 d2 l' → Q (.ref t) H'
theorem State.startG {K : Frag} {Z : Zone} {G H : Hp} {p : Addr} {xs : List V} {l : List D} {ads : List AD} {ws : List V} {N : List Str} (hz : Z.given = some p) (ex : Ex G H) (hd : DeckIn Z G H) (hg : G p = none) (hnd : ¬ inDeck Z p) (hh : H p = some (.lst xs)) (rl : RpA K G l xs) (hl : l.length ≤ Lm)
    (r : ArgsRp K Z G ads ws) (hn : ads.length + 1 ≤ N.length) : State K Z G H G H (L2.start N (.ref p :: ws)) (.own l :: startD ads (N.length - 1)) := by
  have hlen := r.length
  have h1 : ∀ i, (L2.start N (.ref p :: ws))[i + 1]? = (ws.map some ++ List.replicate (N.length - 1 - ws.length) none)[i]? := by
    intro i
    unfold L2.start
    rw [List.map_cons, List.cons_append, List.getElem?_cons_succ]
    congr 2
    simp; omega
  refine ⟨ex, Ex.refl _, fun p h => .inl h, fun a o h _ => h, hd, ?_, fun q h => (by rw [hz] at h; cases h; rw [hh]; exact fun z => nomatch z), fun i sd h => ?_, fun i j d1 d2 q hij h g h3 => ?_⟩
  · unfold L2.start startD; simp [hlen]; omega
  · cases i with
    | zero =>
      simp at h; subst h
      exact ⟨p, xs, rfl, .inr hz, hg, hnd, hl, hh, rl⟩
    | succ i =>
      rw [List.getElem?_cons_succ] at h
      rw [h1]
      unfold startD at h
      by_cases hi : i < ads.length
      · rw [List.getElem?_append_left (by simpa using hi), List.getElem?_map] at h
        cases e : ads[i]? with
        | none => rw [e] at h; cases h
        | some a =>
          rw [e] at h; cases h
          obtain ⟨v, g1, g2⟩ := r.get e
          rw [List.getElem?_append_left (by simp; omega), List.getElem?_map, g1]
          cases a with
          | dat d => exact ⟨v, rfl, g2⟩
          | deck => obtain ⟨dk, cc, h3, h4⟩ := g2; exact ⟨dk, cc, h3, by rw [h4]; rfl⟩
      · rw [List.getElem?_append_right (by simpa using hi), List.getElem?_replicate] at h
        split at h
        · cases h; trivial
        · cases h
  · have noOwn : ∀ {m : Nat} {dd : List D}, (SD.own l :: startD ads (N.length - 1))[m]? = some (.own dd) → m = 0 := by
      intro m dd hm
      cases m with
      | zero => rfl
      | succ m =>
        exfalso
        rw [List.getElem?_cons_succ] at hm
        unfold startD at hm
        by_cases hi : m < ads.length
        · rw [List.getElem?_append_left (by simpa using hi), List.getElem?_map] at hm
          cases e : ads[m]? with
          | none => rw [e] at hm; cases hm
          | some a => rw [e] at hm; cases a <;> cases hm
        · rw [List.getElem?_append_right (by simpa using hi), List.getElem?_replicate] at hm
          split at hm <;> cases hm
    exact absurd ((noOwn h).trans (noOwn g).symm) hij
section
variable {P : Program} {w : World} {K : Frag} {mg : Str → Option Value} {base : Heap} {x qual : Str} {st : Stmt} {f : Addr} {fd : FuncData} {N ps : List Str} {k : Nat}
theorem fn_mkG {Pc : List D → List AD → (D → D → List D → Prop) → Prop} (F : Fun K x qual st f fd) (Sc : FnScope N ps (defScope st)) (hl : ∀ l ads R, Pc l ads R → ads.length + 1 = ps.length)
    (body : ∀ (c : Ct) (l : List D) (ads : List AD) (R : D → D → List D → Prop), Pc l ads R → Run ⟨P, w, K, mg, base, N, defScope st, k, fun _ => true, false⟩ c (defBody st) (.own l :: startD ads (N.length - 1)) { nx := fun _ => False, rt := fun _ => False, r3 := R }) :
    FnOk P w K mg base CX0 (k + 1) f fd ps (spG K Pc) := by
  refine F.ok Sc (fun vs H Q E h => ?_) (fun cdv A outer s H vs Q E hr h => ?_)
  · obtain ⟨Z, G, p, xs, l, ws, ads, R, rfl, _, _, _, _, _, _, _, _, r, hc, _⟩ := h
    rw [List.length_cons, r.length]; exact hl l ads R hc
  · obtain ⟨Z, G, p, xs, l, ws, ads, R, rfl, hz, ex, hd, hg, hnd, hh, rl, hlen, r, hc, q⟩ := h
    refine ⟨_, pss_w, ?_⟩
    exact body ⟨Z, G, H⟩ l ads R hc _ (fits_def Sc hr) _ G H _ (State.startG hz ex hd hg hnd hh rl hlen r (by rw [hl l ads R hc]; exact pre_le Sc)) ⟨fun σ' G' H' ds' e s' n => n.elim, fun _ _ _ _ _ _ z => z.elim, fun _ _ _ _ _ _ z => z.elim,
      fun v G' H' d s' r' n => n.elim, fun p xs G' H' l s' a1 a2 a3 a4 a5 a6 n => n.elim, fun t b xs v1 v2 G' H' d1 d2 l s' a1 a2 a3 a4 a5 a6 a7 a8 a9 m => q t b xs v1 v2 G' H' d1 d2 l s' a1 a2 a3 a4 a5 a6 a7 a8 a9 m⟩
end
section
variable {I : Inf} {c : Ct} {ds : List SD} {e e1 e2 e3 : Expr} {es : List Expr} {pos : Pos} {A : After}
/-- return (a, b, a fresh list) -/
theorem rs_ret3 {P1 P2 : D → Prop} {PL : List D → Prop} {x1 : Nat} {p : Pos} (h1 : EvE I c e1 ds P1) (h2 : EvE I c e2 ds P2) (h3 : EvF I c e3 ds PL) (hr : ∀ a b l, P1 a → P2 b → PL l → A.r3 a b l)
    (hs1 : ∀ X, Fits I X → starEach [e1, e2, e3] X.env = (false, eval e1 X.env) :: starEach [e2, e3] X.env := by intros; rfl) (hs2 : ∀ X, Fits I X → starEach [e2, e3] X.env = (false, eval e2 X.env) :: starEach [e3] X.env := by intros; rfl)
    (hs3 : ∀ X, Fits I X → starEach [e3] X.env = (false, eval e3 X.env) :: starEach [] X.env := by intros; rfl) : RunS I c (.Return (some (.Tuple [e1, e2, e3] x1 p)) pos) ds A := fun X F σ G H E s k => by
  refine w_ps (ps_ret (pe_tup (pa_cons pe_w (pa_cons pe_w (pa_cons pe_w pa_nil (hs3 X F)) (hs2 X F)) (hs1 X F)))) ?_
  refine h1 X F σ G H s _ fun v1 G1 H1 d1 x1 s1 r1 p1 => h2 X F σ G1 H1 s1 _ fun v2 G2 H2 d2 x2 s2 r2 p2 => h3 X F σ G2 H2 s2 _ fun b xs G3 H3 l x3 s3 np hg hd hl hh r3 p3 => ?_
  refine ⟨by show 3 ≤ sizeLine; decide, fun t nt => ?_⟩
  have tb : b ≠ t := by rintro rfl; rw [hh] at nt; cases nt
  exact k.r3 t b xs v1 v2 G3 _ d1 d2 l (State.aside s3 nt).drop (S.h0none s2 np) hg hd hl (by rw [upd_ne tb]; exact hh) r3 upd_same (r1.mono (x2.g.trans x3.g)) (r2.mono x3.g) (hr d1 d2 l p1 p2 p3)
/-- an owned list's slot -/
theorem own_newer {σ : St} {G H : Hp} {i : Nat} {p : Addr} {xs : List V} {l : List D} (s' : S I c G H σ ds) (no : NoOwn σ ds p) (h0 : c.H0 p = none ∨ c.Z.given = some p) (hg : G p = none) (hnd : ¬ inDeck c.Z p) (hl : l.length ≤ Lm) (hh : H p = some (.lst xs)) (r : RpA I.K G l xs) :
    S I c G H (σ.set i (some (.ref p))) (ds.set i (.own l)) := by
  refine ⟨s'.ex, s'.exg, s'.nw, s'.exm, s'.deck, by simp [s'.len], s'.giv, fun j sd h => ?_, fun j k d1 d2 q hjk g1 g2 g3 => ?_⟩
  · by_cases e : j = i
    · subst e
      have hlt : j < ds.length := by
        rcases Nat.lt_or_ge j ds.length with h0 | h0
        · exact h0
        · rw [List.getElem?_eq_none (by simp; exact h0)] at h; cases h
      rw [List.getElem?_set_self hlt] at h; cases h
      rw [List.getElem?_set_self (by rw [s'.len]; exact hlt)]
      exact ⟨p, xs, rfl, h0, hg, hnd, hl, hh, r⟩
    · rw [List.getElem?_set_ne (Ne.symm e)] at *; exact s'.slots j sd h
  · by_cases e1 : j = i
    · subst e1
      have hlt : j < σ.length := by
        rcases Nat.lt_or_ge j σ.length with h0 | h0
        · exact h0
        · rw [List.getElem?_eq_none (by simp; exact h0)] at g3; cases g3
      rw [List.getElem?_set_self hlt] at g3; cases g3
      rw [List.getElem?_set_ne hjk] at *
      exact no k d2 g2
    · rw [List.getElem?_set_ne (Ne.symm e1)] at g1 g3
      by_cases e2 : k = i
      · subst e2
        intro z
        have hlt : k < σ.length := by
          rcases Nat.lt_or_ge k σ.length with h0 | h0
          · exact h0
          · rw [List.getElem?_eq_none (by simp; exact h0)] at z; cases z
        rw [List.getElem?_set_self hlt] at z; cases z
        exact no j d1 g1 g3
      · rw [List.getElem?_set_ne (Ne.symm e2)] at *
        exact s'.dist j k d1 d2 q hjk g1 g2 g3
/-- x, y, z = f(a fresh list, ..) -/
theorem rs_callG {i j m : Nat} {x y z fn : Str} {px py pz pt p p2 : Pos} {kk : Nat} {Pc : List D → List AD → (D → D → List D → Prop) → Prop} {PL : List D → Prop} {PA : List AD → Prop} (hx : Sto I i x) (hy : Sto I j y) (hz : Sto I m z)
    (hf : FnS I fn (spG I.K Pc)) (hg : I.sc.names.lookup fn = some .globalImplicit) (h0 : EvF I c e ds PL) (ha : EvAD I c es ds PA)
    (h : ∀ l ads, PL l → PA ads → ∃ R, Pc l ads R ∧ ∀ a b t, R a b t → A.nx (((ds.set i (.dat a)).set j (.dat b)).set m (.own t))) (hdb : (fn == ("__debug__" : Str)) = false := by decide)
    (he : ∀ X, Fits I X → starEach (e :: es) X.env = (false, eval e X.env) :: starEach es X.env := by intros; rfl) (hpl : ∀ X, Fits I X → (backTo p2 (starEach es X.env)).any (·.1) = false := by intros; rfl)
    (hs : ∀ X, Fits I X → swapsWithSole [.Tuple [.Name x px, .Name y py, .Name z pz] kk pt] (.Call (.Name fn p) (e :: es) [] p2) pos.line X.env = pure false := by intros; rfl) (hw : ∀ X, Fits I X → swappedStores [.Tuple [.Name x px, .Name y py, .Name z pz] kk pt] (.Call (.Name fn p) (e :: es) [] p2) X.env = pure none := by intros; rfl)
    (h1 : ∀ X, Fits I X → (assignEach [.Tuple [.Name x px, .Name y py, .Name z pz] kk pt] X.env).map (·.2) = [assign (.Tuple [.Name x px, .Name y py, .Name z pz] kk pt) X.env] := by intros; rfl) :
    RunS I c (.Assign [.Tuple [.Name x px, .Name y py, .Name z pz] kk pt] (.Call (.Name fn p) (e :: es) [] p2) pos) ds A := fun X F σ G H E s k => by
  obtain ⟨f, fd, ps, hmf, hk, hb, G0⟩ := hf.ok
  have GG : FnOk X.prog X.w X.K X.mg X.base CX0 I.k f fd ps (spG I.K Pc) := by rw [F.prog, F.w, F.K, F.mg, F.base]; exact G0
  have tg := pg_tup (k := kk) (pos := pt) F.calm (pgs_cons (pg_name (pos := px) (i := i) (by rw [F.N]; exact F.nd) (by rw [F.N]; exact hx.at_) (by rw [F.sc]; exact hx.loc) (hx.fn F)) (pgs_cons (pg_name (pos := py) (i := j) (by rw [F.N]; exact F.nd) (by rw [F.N]; exact hy.at_) (by rw [F.sc]; exact hy.loc) (hy.fn F)) (pgs_cons (pg_name (pos := pz) (i := m) (by rw [F.N]; exact F.nd) (by rw [F.N]; exact hz.at_) (by rw [F.sc]; exact hz.loc) (hz.fn F)) pgs_nil)))
  refine w_ps (ps_asg (pe_call GG F.room (by show X.env.scope.names.lookup fn = _; rw [F.sc]; exact hg) (by rw [F.mg]; exact hmf) (by rw [F.K]; exact hk) (by rw [F.K]; exact hb) .nil pass0 (pa_cons pe_w pa_w (he X F)) hdb (he X F) (hpl X F)) tg (hs X F) (hw X F) (h1 X F)) ?_
  refine h0 X F σ G H s _ fun p xs G1 H1 l x1 s1 np hgp hd hl hh r1 p1 => ?_
  refine ha X F σ G1 H1 s1 _ fun vs G2 H2 ads x2 s2 r2 p2 => ?_
  obtain ⟨R, hc, hn⟩ := h l ads p1 p2
  have hg2 : G2 p = none := by
    cases z : G2 p with
    | none => rfl
    | some o =>
      rcases x2.nw p (by rw [z]; exact fun q => nomatch q) with q | q
      · exact absurd hgp q
      · rw [hh] at q; cases q
  rw [List.append_nil]
  refine ⟨{ deck := c.Z.deck, given := some p }, G2, p, xs, l, vs, ads, R, rfl, rfl, s2.ex, s2.deck, hg2, hd, x2.h _ _ hh hd, r1.mono x2.g, hl, ArgsRp.zone (Z := c.Z) (Z' := { deck := c.Z.deck, given := some p }) rfl r2, hc, fun t b xb v1 v2 G' H' d1 d2 lb t' nb hgb hdb' hlb hhb rb ht rv1 rv2 hR => ?_⟩
  -- what the call has done, seen from ahead of its arguments
  have hne : ∀ a o, H a = some o → a ≠ p := fun a o q z => by subst z; rw [np] at q; cases q
  have gr : Gr c.Z G H G' H' := by
    refine ⟨(x1.trans x2).g.trans t'.exg, fun a o q z => ?_, fun a q => ?_, fun a q z => ?_⟩
    · exact t'.exm a o ((x1.trans x2).h a o q z) (by
        rintro (w | w)
        · exact z w
        · exact hne a o q (Option.some.inj w).symm)
    · rcases t'.nw a q with w | w | w
      · exact (x1.trans x2).nw a w
      · right
        cases e : H a with
        | none => rfl
        | some o => exact absurd w ((x1.trans x2).dom a (by rw [e]; exact fun z => nomatch z))
      · right; cases w; exact np
    · have q2 := (x1.trans x2).dom a q
      by_cases w : inZ { deck := c.Z.deck, given := some p } a
      · rcases w with w | w
        · exact (t'.deck.ne w).1 z
        · exact t'.giv a w z
      · cases e : H2 a with
        | none => exact q2 e
        | some o => rw [t'.exm a o e w] at z; cases z
  have st : State I.K c.Z c.G0 c.H0 G' H' [] [] := by
    refine ⟨t'.ex, s.exg.trans gr.g, fun a q => ?_, fun a o q z => gr.h a o (s.exm a o q z) (fun w => z (.inl w)), t'.deck, rfl, fun a q => gr.dom a (s.giv a q), fun i sd q => by simp at q, fun i j d1 d2 q _ w => by simp at w⟩
    rcases gr.nw a q with w | w
    · exact s.nw a w
    · right; left; exact S.h0none s w
  have s' : S I c G' H' σ ds := State.regrow s st gr
  have nb0 : H b = none := by
    cases e : H b with
    | none => rfl
    | some o => exact absurd nb ((x1.trans x2).dom b (by rw [e]; exact fun z => nomatch z))
  have a1 : S I c G' H' (σ.set i (some v1)) (ds.set i (.dat d1)) := State.set s' (i := i) (sd := .dat d1) rfl ⟨v1, rfl, rv1⟩
  have a2 : S I c G' H' ((σ.set i (some v1)).set j (some v2)) ((ds.set i (.dat d1)).set j (.dat d2)) := State.set a1 (i := j) (sd := .dat d2) rfl ⟨v2, rfl, rv2⟩
  have b1 : S I c G H (σ.set i (some (.non))) (ds.set i (.dat .none)) := State.set s (i := i) (sd := .dat .none) rfl ⟨.non, rfl, .non⟩
  have a3 : S I c G' H' (((σ.set i (some v1)).set j (some v2)).set m (some (.ref b))) (((ds.set i (.dat d1)).set j (.dat d2)).set m (.own lb)) := by
    refine own_newer a2 ((State.noOwn s nb0).set.set) (.inl (S.h0none s nb0)) hgb hdb' hlb hhb rb
  refine ⟨t, [v1, v2, .ref b], rfl, .inl (.inl ht), rfl, v1, [v2, .ref b], rfl, v2, [.ref b], rfl, .ref b, [], rfl, rfl, ?_⟩
  exact k.nx _ G' H' _ gr.g a3 (hn d1 d2 lb hR)
end
theorem wk_is {I : Inf} {c : Ct} {ds : List SD} {tg iter : Expr} {l l' : List D} (h : Walk I c tg iter ds (· = l)) (e : l = l') : Walk I c tg iter ds (· = l') := by rw [← e]; exact h
section
variable {I : Inf} {c : Ct} {ds : List SD} {a b : Expr} {pos : Pos} {A : After}
/-- x, y = a fresh list, b: by way of a tuple -/
theorem rs_tup2F {i j : Nat} {x y : Str} {px py pt : Pos} {kk : Nat} {k2 pt2} {PL : List D → Prop} {PB : D → Prop} (hx : Sto I i x) (hy : Sto I j y)
    (ha : EvF I c a ds PL) (hb : EvE I c b ds PB) (hn : ∀ l e, PL l → PB e → A.nx ((ds.set i (.own l)).set j (.dat e)))
    (hs1 : ∀ X, Fits I X → starEach [a, b] X.env = (false, eval a X.env) :: starEach [b] X.env := by intros; rfl) (hs2 : ∀ X, Fits I X → starEach [b] X.env = (false, eval b X.env) :: starEach [] X.env := by intros; rfl)
    (hw : ∀ env : Env, env.scope = I.sc → swappedStores [.Tuple [.Name x px, .Name y py] kk pt] (.Tuple [a, b] k2 pt2) env = pure none := by intro env h; cases env; dsimp only at h; subst h; rfl)
    (hs : ∀ X, Fits I X → swapsWithSole [.Tuple [.Name x px, .Name y py] kk pt] (.Tuple [a, b] k2 pt2) pos.line X.env = pure false := by intros; rfl)
    (h1 : ∀ X, Fits I X → (assignEach [.Tuple [.Name x px, .Name y py] kk pt] X.env).map (·.2) = [assign (.Tuple [.Name x px, .Name y py] kk pt) X.env] := by intros; rfl) :
    RunS I c (.Assign [.Tuple [.Name x px, .Name y py] kk pt] (.Tuple [a, b] k2 pt2) pos) ds A := fun X F σ G H E s k => by
  have tg := pg_tup (k := kk) (pos := pt) F.calm (pgs_cons (pg_name (pos := px) (i := i) (by rw [F.N]; exact F.nd) (by rw [F.N]; exact hx.at_) (by rw [F.sc]; exact hx.loc) (hx.fn F)) (pgs_cons (pg_name (pos := py) (i := j) (by rw [F.N]; exact F.nd) (by rw [F.N]; exact hy.at_) (by rw [F.sc]; exact hy.loc) (hy.fn F)) pgs_nil))
  refine w_ps (ps_asg (pe_tup (pa_cons pe_w (pa_cons pe_w pa_nil (hs2 X F)) (hs1 X F))) tg (hs X F) (hw X.env F.sc) (h1 X F)) ?_
  refine ha X F σ G H s _ fun p xs G1 H1 l x1 s1 np hg hd hl hh r1 p1 => hb X F σ G1 H1 s1 _ fun v G2 H2 e x2 s2 r2 p2 => ?_
  refine ⟨by show 2 ≤ sizeLine; decide, fun t nt => ?_⟩
  have hg2 : G2 p = none := by
    cases z : G2 p with
    | none => rfl
    | some o =>
      rcases x2.nw p (by rw [z]; exact fun q => nomatch q) with q | q
      · exact absurd hg q
      · rw [hh] at q; cases q
  have hh2 : H2 p = some (.lst xs) := x2.h _ _ hh hd
  have tp : p ≠ t := by rintro rfl; rw [hh2] at nt; cases nt
  have s3 : S I c G2 (upd H2 t (.tup [.ref p, v])) σ ds := State.aside s2 nt
  have so := own_newer (i := i) s3 (s.noOwn np) (.inl (S.h0none s np)) hg2 hd hl (by rw [upd_ne tp]; exact hh2) (r1.mono x2.g)
  refine ⟨t, [.ref p, v], rfl, SqT.of upd_same, rfl, .ref p, [v], rfl, v, [], rfl, rfl, ?_⟩
  exact k.nx _ G2 _ _ (x1.g.trans x2.g) (State.set so (i := j) (sd := .dat e) rfl ⟨v, rfl, r2⟩) (hn l e p1 p2)
end
section
variable {I : Inf} {c : Ct} {ds : List SD} {pos : Pos}
/-- list(x), x an owned list -/
theorem ev_listO {i : Nat} {x : Str} {l : List D} {p p2 : Pos} (hg : I.sc.names.lookup ("list" : Str) = some .globalImplicit) (hm : I.mg "list" = none) (hN : I.N[i]? = some x) (hv : Vis I.sc x) (ho : ds[i]? = some (.own l))
    (h1 : (x == ("__debug__" : Str)) = false := by decide) (h2 : (x == ("__classdict__" : Str)) = false := by decide) : EvE I c (.Call (.Name "list" p) [.Name x p2] [] pos) ds (· = .list l) := fun X F σ G H s Q k => by
  have hb : bootBuiltins ("list" : Str) = some (.type "list") := by decide +kernel
  refine w_pe (pe_callTy call_list_of (by show X.env.scope.names.lookup _ = _; rw [F.sc]; exact hg) (by rw [F.mg]; exact hm) hb (pa_cons (pe_var (i := i) (by rw [F.N]; exact hN) (by rw [F.sc]; exact hv) h1 h2) pa_nil)) ?_
  obtain ⟨q, xs, e1, h0, h3, h4, h5, h6, h7⟩ := own_at s ho
  refine ⟨.ref q, e1, q, xs, rfl, .inl (SqL.of h6), fun p np => ?_⟩
  obtain ⟨s4, x4⟩ := s.laid (o := .lst xs) np
  exact k _ _ _ _ x4 s4 (.lst upd_same h5 (h7.mono x4.g)) rfl
end
end Dl


namespace Sg

/-! sums over the first n numbers -/
def sumTo : Nat → (Nat → Int) → Int
  | 0, _ => 0
  | n + 1, g => sumTo n g + g n

theorem sumTo_congr {n : Nat} {g h : Nat → Int} (e : ∀ j, j < n → g j = h j) : sumTo n g = sumTo n h := by
  induction n with
  | zero => rfl
  | succ n ih => simp only [sumTo]; rw [ih (fun j hj => e j (by omega)), e n (by omega)]

theorem sumTo_zero {n : Nat} {g : Nat → Int} (e : ∀ j, j < n → g j = 0) : sumTo n g = 0 := by
  induction n with
  | zero => rfl
  | succ n ih => simp only [sumTo]; rw [ih (fun j hj => e j (by omega)), e n (by omega)]; rfl

theorem sumTo_lin (n : Nat) (a b : Int) (g h : Nat → Int) :
    sumTo n (fun j => a * g j + b * h j) = a * sumTo n g + b * sumTo n h := by
  induction n with
  | zero => simp [sumTo]
  | succ n ih => simp only [sumTo]; rw [ih]; grind

theorem sumTo_mul (n : Nat) (a : Int) (g : Nat → Int) : sumTo n (fun j => a * g j) = a * sumTo n g := by
  induction n with
  | zero => simp [sumTo]
  | succ n ih => simp only [sumTo]; rw [ih]; grind

theorem sumTo_add (n : Nat) (g h : Nat → Int) : sumTo n (fun j => g j + h j) = sumTo n g + sumTo n h := by
  induction n with
  | zero => simp [sumTo]
  | succ n ih => simp only [sumTo]; rw [ih]; grind

theorem sumTo_one {n : Nat} {g : Nat → Int} (i : Nat) (hi : i < n) (e : ∀ j, j < n → j ≠ i → g j = 0) :
    sumTo n g = g i := by
  induction n with
  | zero => omega
  | succ n ih =>
    simp only [sumTo]
    by_cases h : i = n
    · subst h; rw [sumTo_zero (fun j hj => e j (by omega) (by omega))]; omega
    · rw [ih (by omega) (fun j hj => e j (by omega)), e n (by omega) (by omega)]; omega

theorem sumTo_two {n : Nat} {g : Nat → Int} (i k : Nat) (hi : i < n) (hk : k < n) (hik : i ≠ k)
    (e : ∀ j, j < n → j ≠ i → j ≠ k → g j = 0) : sumTo n g = g i + g k := by
  have h : ∀ j, g j = (if j = i then g i else 0) + (if j = i then 0 else g j) := by
    intro j; by_cases hj : j = i <;> simp [hj]
  rw [sumTo_congr (h := fun j => (if j = i then g i else 0) + (if j = i then 0 else g j)) (fun j _ => h j), sumTo_add,
    sumTo_one i hi (fun j _ hj => by simp [hj]),
    sumTo_one k hk (fun j hj hjk => by by_cases hji : j = i <;> simp [hji]; exact e j hj hji hjk)]
  simp [Ne.symm hik]

/-! determinants: by columns, along the first row -/
def cut (f : Nat → Nat → Int) (j : Nat) : Nat → Nat → Int :=
  fun c r => f (if c < j then c else c + 1) (r + 1)

def sgn (j : Nat) : Int := if j % 2 = 0 then 1 else -1

theorem sgn_succ (j : Nat) : sgn (j + 1) = - sgn j := by
  unfold sgn; by_cases h : j % 2 = 0
  · rw [if_neg (by omega), if_pos h]
  · rw [if_pos (by omega), if_neg h]; rfl

def det : Nat → (Nat → Nat → Int) → Int
  | 0, _ => 1
  | n + 1, f => sumTo (n + 1) (fun j => sgn j * f j 0 * det n (cut f j))

def put (f : Nat → Nat → Int) (c : Nat) (v : Nat → Int) : Nat → Nat → Int :=
  fun c' => if c' = c then v else f c'

theorem put_same (f : Nat → Nat → Int) (c : Nat) (v : Nat → Int) : put f c v c = v := by simp [put]
theorem put_ne (f : Nat → Nat → Int) {c c' : Nat} (v : Nat → Int) (h : c' ≠ c) : put f c v c' = f c' := by simp [put, h]
theorem put_put (f : Nat → Nat → Int) (c : Nat) (u v : Nat → Int) : put (put f c u) c v = put f c v := by
  funext c'; by_cases h : c' = c <;> simp [put, h]
theorem put_comm (f : Nat → Nat → Int) {c d : Nat} (u v : Nat → Int) (h : c ≠ d) :
    put (put f c u) d v = put (put f d v) c u := by
  funext c'; by_cases h1 : c' = c <;> by_cases h2 : c' = d <;> simp [put, h1, h2]
  · omega
  · intro e; exact absurd e h
  · intro e; exact absurd e.symm h
theorem put_self (f : Nat → Nat → Int) (c : Nat) : put f c (f c) = f := by
  funext c'; by_cases h : c' = c <;> simp [put, h]

theorem det_congr {n : Nat} : ∀ {f g : Nat → Nat → Int}, (∀ c, c < n → ∀ r, r < n → f c r = g c r) →
    det n f = det n g := by
  induction n with
  | zero => intros; rfl
  | succ n ih =>
    intro f g e
    simp only [det]
    refine sumTo_congr (fun j hj => ?_)
    rw [e j hj 0 (by omega), ih (f := cut f j) (g := cut g j)]
    intro c hc r hr
    simp only [cut]
    split
    · exact e _ (by omega) _ (by omega)
    · exact e _ (by omega) _ (by omega)

theorem cut_put_at (f : Nat → Nat → Int) (j : Nat) (v : Nat → Int) : cut (put f j v) j = cut f j := by
  funext c r; simp only [cut, put]; split <;> rw [if_neg (by omega)]

theorem cut_put_lt (f : Nat → Nat → Int) {c j : Nat} (v : Nat → Int) (h : c < j) :
    cut (put f c v) j = put (cut f j) c (fun r => v (r + 1)) := by
  funext c' r
  by_cases h1 : c' = c
  · subst h1; simp [cut, put, h]
  · rw [put_ne _ _ h1]; simp only [cut]
    by_cases h2 : c' < j
    · rw [if_pos h2, put_ne _ _ h1]
    · rw [if_neg h2, put_ne _ _ (by omega)]

theorem cut_put_gt (f : Nat → Nat → Int) {c j : Nat} (v : Nat → Int) (h : j < c) :
    cut (put f c v) j = put (cut f j) (c - 1) (fun r => v (r + 1)) := by
  funext c' r
  by_cases h1 : c' = c - 1
  · subst h1; rw [put_same]; simp only [cut]; rw [if_neg (by omega), show c - 1 + 1 = c from by omega, put_same]
  · rw [put_ne _ _ h1]; simp only [cut]
    by_cases h2 : c' < j
    · rw [if_pos h2, put_ne _ _ (by omega)]
    · rw [if_neg h2, put_ne _ _ (by omega)]

theorem det_lin {n : Nat} : ∀ (f : Nat → Nat → Int) {c : Nat} (_ : c < n) (a b : Int) (u w : Nat → Int),
    det n (put f c (fun r => a * u r + b * w r)) = a * det n (put f c u) + b * det n (put f c w) := by
  induction n with
  | zero => intro f c hc; omega
  | succ n ih =>
    intro f c hc a b u w
    simp only [det]
    rw [← sumTo_lin]
    refine sumTo_congr (fun j hj => ?_)
    by_cases h : j = c
    · subst h
      rw [cut_put_at, cut_put_at, cut_put_at, put_same, put_same, put_same]; grind
    · rw [put_ne _ _ h, put_ne _ _ h, put_ne _ _ h]
      by_cases h1 : c < j
      · rw [cut_put_lt _ _ h1, cut_put_lt _ _ h1, cut_put_lt _ _ h1, ih _ (by omega)]; grind
      · rw [cut_put_gt _ _ (by omega), cut_put_gt _ _ (by omega), cut_put_gt _ _ (by omega), ih _ (by omega)]; grind

theorem det_put_mul {n : Nat} (f : Nat → Nat → Int) {c : Nat} (hc : c < n) (a : Int) (u : Nat → Int) :
    det n (put f c (fun r => a * u r)) = a * det n (put f c u) := by
  have := det_lin f hc a 0 u u
  rw [show (fun r => a * u r + 0 * u r) = fun r => a * u r from by funext r; omega] at this
  rw [this]; omega

theorem det_put_add {n : Nat} (f : Nat → Nat → Int) {c : Nat} (hc : c < n) (u w : Nat → Int) :
    det n (put f c (fun r => u r + w r)) = det n (put f c u) + det n (put f c w) := by
  have := det_lin f hc 1 1 u w
  rw [show (fun r => 1 * u r + 1 * w r) = fun r => u r + w r from by funext r; omega] at this
  rw [this]; omega

theorem det_put_sum {n : Nat} (f : Nat → Nat → Int) {c : Nat} (hc : c < n) (m : Nat) (t : Nat → Int) (u : Nat → Nat → Int) :
    det n (put f c (fun r => sumTo m (fun k => t k * u k r))) = sumTo m (fun k => t k * det n (put f c (u k))) := by
  induction m with
  | zero =>
    have := det_put_mul f hc 0 (fun _ => 0)
    simp only [sumTo]
    rw [show (fun (r : Nat) => (0 : Int) * (fun _ => 0) r) = fun _ => 0 from by funext r; simp] at this
    rw [this]; omega
  | succ m ih =>
    simp only [sumTo]
    rw [det_put_add _ hc, ih, det_put_mul _ hc]

theorem det_adj {n : Nat} : ∀ (f : Nat → Nat → Int) {c : Nat} (_ : c + 1 < n), (∀ r, r < n → f c r = f (c + 1) r) →
    det n f = 0 := by
  induction n with
  | zero => intro f c hc; omega
  | succ n ih =>
    intro f c hc e
    simp only [det]
    rw [sumTo_two c (c + 1) (by omega) hc (by omega)]
    · rw [sgn_succ, e 0 (by omega), det_congr (f := cut f c) (g := cut f (c + 1))]
      · grind
      · intro c' hc' r hr
        simp only [cut]
        by_cases h : c' < c
        · rw [if_pos h, if_pos (by omega)]
        · rw [if_neg h]
          by_cases h2 : c' < c + 1
          · rw [if_pos h2]; have : c' = c := by omega
            subst this; exact (e (r + 1) (by omega)).symm
          · rw [if_neg h2]
    · intro j hj h1 h2
      by_cases h : j < c
      · rw [ih (cut f j) (c := c - 1) (by omega)]; · omega
        intro r hr
        simp only [cut]
        rw [if_neg (by omega), if_neg (by omega)]
        rw [show c - 1 + 1 = c from by omega]
        exact e (r + 1) (by omega)
      · rw [ih (cut f j) (c := c) (by omega)]; · omega
        intro r hr
        simp only [cut]
        rw [if_pos (by omega), if_pos (by omega)]
        exact e (r + 1) (by omega)

/-- neighbours exchanged -/
theorem det_swap_adj {n : Nat} (f : Nat → Nat → Int) {c : Nat} (hc : c + 1 < n) (u w : Nat → Int) :
    det n (put (put f c u) (c + 1) w) = - det n (put (put f c w) (c + 1) u) := by
  have key : det n (put (put f c (fun r => u r + w r)) (c + 1) (fun r => u r + w r)) = 0 :=
    det_adj _ hc (fun r _ => by rw [put_ne _ _ (by omega), put_same, put_same])
  rw [det_put_add _ hc, put_comm _ _ _ (show c ≠ c + 1 by omega), put_comm f (fun r => u r + w r) w (show c ≠ c + 1 by omega), det_put_add _ (show c < n by omega), det_put_add _ (show c < n by omega)] at key
  have h1 : det n (put (put f (c + 1) u) c u) = 0 := by
    rw [put_comm _ _ _ (by omega)]
    exact det_adj _ hc (fun r _ => by rw [put_ne _ _ (by omega), put_same, put_same])
  have h2 : det n (put (put f (c + 1) w) c w) = 0 := by
    rw [put_comm _ _ _ (by omega)]
    exact det_adj _ hc (fun r _ => by rw [put_ne _ _ (by omega), put_same, put_same])
  rw [put_comm f (c := c) (d := c + 1) u w (by omega), put_comm f (c := c) (d := c + 1) w u (by omega)]
  omega

theorem det_equal {n : Nat} (k : Nat) : ∀ (f : Nat → Nat → Int) {c : Nat} (_ : c + 1 + k < n),
    (∀ r, r < n → f c r = f (c + 1 + k) r) → det n f = 0 := by
  induction k with
  | zero => intro f c hc e; exact det_adj f hc e
  | succ k ih =>
    intro f c hc e
    have h0 := det_swap_adj f (c := c + 1 + k) (by omega) (f (c + 1 + k)) (f (c + 1 + k + 1))
    rw [put_self] at h0
    have : put f (c + 1 + k + 1) (f (c + 1 + k + 1)) = f := put_self _ _
    rw [this] at h0
    rw [h0, ih _ (c := c) (by omega)]; · rfl
    intro r hr
    rw [put_ne _ _ (by omega), put_ne _ _ (by omega), put_ne _ _ (by omega), put_same]
    exact e r hr

theorem det_same {n : Nat} (f : Nat → Nat → Int) {i j : Nat} (hi : i < n) (hj : j < n) (hij : i ≠ j)
    (e : ∀ r, r < n → f i r = f j r) : det n f = 0 := by
  by_cases h : i < j
  · exact det_equal (j - i - 1) f (c := i) (by omega) (fun r hr => by rw [show i + 1 + (j - i - 1) = j from by omega]; exact e r hr)
  · exact det_equal (i - j - 1) f (c := j) (by omega) (fun r hr => by rw [show j + 1 + (i - j - 1) = i from by omega]; exact (e r hr).symm)

theorem det_swap {n : Nat} (f : Nat → Nat → Int) {i j : Nat} (hi : i < n) (hj : j < n) (hij : i ≠ j) (u w : Nat → Int) :
    det n (put (put f i u) j w) = - det n (put (put f i w) j u) := by
  have key : det n (put (put f i (fun r => u r + w r)) j (fun r => u r + w r)) = 0 :=
    det_same _ hi hj hij (fun r _ => by rw [put_ne _ _ hij, put_same, put_same])
  rw [det_put_add _ hj, put_comm _ _ _ hij, put_comm f (fun r => u r + w r) w hij, det_put_add _ hi, det_put_add _ hi] at key
  have h1 : det n (put (put f j u) i u) = 0 := by
    rw [put_comm _ _ _ (Ne.symm hij)]
    exact det_same _ hi hj hij (fun r _ => by rw [put_ne _ _ hij, put_same, put_same])
  have h2 : det n (put (put f j w) i w) = 0 := by
    rw [put_comm _ _ _ (Ne.symm hij)]
    exact det_same _ hi hj hij (fun r _ => by rw [put_ne _ _ hij, put_same, put_same])
  rw [put_comm f (c := i) (d := j) u w hij, put_comm f (c := i) (d := j) w u hij]
  omega

/-- the unit matrix -/
def unit (c r : Nat) : Int := if c = r then 1 else 0

theorem det_unit (n : Nat) : det n unit = 1 := by
  induction n with
  | zero => rfl
  | succ n ih =>
    simp only [det]
    rw [sumTo_one 0 (by omega) (fun j _ hj => by simp [unit, hj])]
    rw [det_congr (f := cut unit 0) (g := unit)]
    · rw [ih]; simp [sgn, unit]
    · intro c hc r hr; simp [cut, unit]

theorem det_unit_put {n i : Nat} (hi : i < n) (v : Nat → Int) : det n (put unit i v) = v i := by
  have h := det_put_sum (n := n) unit hi n v unit
  rw [det_congr (g := put unit i v)] at h
  · rw [h, sumTo_one i hi]
    · rw [put_self, det_unit]; omega
    · intro j hj hji
      rw [det_same _ hi hj (Ne.symm hji)]; · omega
      intro r hr; rw [put_same, put_ne _ _ hji]
  · intro c hc r hr
    by_cases h : c = i
    · subst h; rw [put_same, put_same, sumTo_one r hr]
      · simp [unit]
      · intro j hj hjr; simp [unit, hjr]
    · rw [put_ne _ _ h, put_ne _ _ h]

theorem sumTo_abs {n : Nat} {g : Nat → Int} {K : Nat} (e : ∀ j, j < n → (g j).natAbs ≤ K) : (sumTo n g).natAbs ≤ n * K := by
  induction n with
  | zero => simp [sumTo]
  | succ n ih =>
    simp only [sumTo]
    have h1 := ih (fun j hj => e j (by omega))
    have h2 := e n (by omega)
    have h3 := Int.natAbs_add_le (sumTo n g) (g n)
    rw [Nat.succ_mul]; omega

theorem sgn_abs (j : Nat) : (sgn j).natAbs = 1 := by unfold sgn; split <;> rfl

/-- no determinant is greater than this -/
def top : Nat → Nat → Nat
  | 0, _ => 1
  | n + 1, K => (n + 1) * (K * top n K)

theorem det_abs {n K : Nat} : ∀ {f : Nat → Nat → Int}, (∀ c, c < n → ∀ r, r < n → (f c r).natAbs ≤ K) →
    (det n f).natAbs ≤ top n K := by
  induction n with
  | zero => intros; simp [det, top]
  | succ n ih =>
    intro f e
    simp only [det, top]
    refine sumTo_abs (fun j hj => ?_)
    rw [Int.natAbs_mul, Int.natAbs_mul, sgn_abs, Nat.one_mul]
    refine Nat.mul_le_mul (e j hj 0 (by omega)) (ih ?_)
    intro c hc r hr
    simp only [cut]
    split
    · exact e _ (by omega) _ (by omega)
    · exact e _ (by omega) _ (by omega)

end Sg


namespace Sg

/-- what stands behind a tableau T with the divisor d: the columns A, the basis B, a sign -/
structure Inv (N C : Nat) (A T : Nat → Nat → Int) (d : Int) (B : Nat → Nat → Int) (s : Int) : Prop where
  sq : s * s = 1
  pos : 0 < d
  hd : d = s * det N B
  ent : ∀ i, i < N → ∀ j, j < C → T i j = s * det N (put B i (A j))
  cra : ∀ j, j < C → ∀ k, k < N → d * A j k = sumTo N (fun i => T i j * B i k)

def piv (T : Nat → Nat → Int) (d : Int) (p q : Nat) : Nat → Nat → Int :=
  fun i j => if i = p then T p j else (T i j * T p q - T p j * T i q) / d

variable {N C : Nat} {A T : Nat → Nat → Int} {d : Int} {B : Nat → Nat → Int} {s : Int}

theorem Inv.first (N C : Nat) (A : Nat → Nat → Int) : Inv N C A (fun i j => A j i) 1 unit 1 where
  sq := rfl
  pos := by decide
  hd := by rw [det_unit]; rfl
  ent := fun i hi j _ => by rw [det_unit_put hi]; omega
  cra := fun j _ k hk => by
    rw [sumTo_one k hk (fun i _ hik => by simp [unit, hik])]; simp [unit]

theorem Inv.plu (I : Inv N C A T d B s) {p q i j : Nat} (hp : p < N) (hi : i < N) (hq : q < C) (hj : j < C) (hip : i ≠ p) :
    d * (s * det N (put (put B p (A q)) i (A j))) = T i j * T p q - T p j * T i q := by
  have h1 := det_put_mul (put B p (A q)) hi d (A j)
  have h2 : det N (put (put B p (A q)) i (fun r => d * A j r))
      = det N (put (put B p (A q)) i (fun r => sumTo N (fun k => T k j * B k r))) := by
    refine det_congr (fun c hc r hr => ?_)
    by_cases h : c = i
    · subst h; rw [put_same, put_same]; exact I.cra j hj r hr
    · rw [put_ne _ _ h, put_ne _ _ h]
  rw [det_put_sum _ hi, sumTo_two i p hi hp hip] at h2
  · have h3 : det N (put (put B p (A q)) i (B i)) = det N (put B p (A q)) := by
      rw [show B i = put B p (A q) i from (put_ne _ _ hip).symm, put_self]
    have h4 : det N (put (put B p (A q)) i (B p)) = - det N (put B i (A q)) := by
      rw [det_swap _ hp hi (Ne.symm hip), put_self]
    rw [h3, h4] at h2
    have e1 := I.ent p hp q hq
    have e2 := I.ent i hi q hq
    have sq := I.sq
    rw [h1] at h2
    generalize det N (put (put B p (A q)) i (A j)) = D at *
    generalize det N (put B p (A q)) = D1 at *
    generalize det N (put B i (A q)) = D2 at *
    rw [e1, e2]
    grind
  · intro k hk hki hkp
    rw [det_same _ hi hk (Ne.symm hki)]; · omega
    intro r hr; rw [put_same, put_ne _ _ hki, put_ne _ _ hkp]

theorem Inv.exact (I : Inv N C A T d B s) {p q i j : Nat} (hp : p < N) (hi : i < N) (hq : q < C) (hj : j < C) (hip : i ≠ p) :
    d * piv T d p q i j = T i j * T p q - T p j * T i q := by
  unfold piv; rw [if_neg hip, ← I.plu hp hi hq hj hip, Int.mul_ediv_cancel_left _ (by have := I.pos; omega)]

theorem Inv.pivot (I : Inv N C A T d B s) {p q : Nat} (hp : p < N) (hq : q < C) (h : 0 < T p q) :
    Inv N C A (piv T d p q) (T p q) (put B p (A q)) s := by
  have hd0 : d ≠ 0 := by have := I.pos; omega
  refine ⟨I.sq, h, I.ent p hp q hq, ?_, ?_⟩
  · intro i hi j hj
    by_cases hip : i = p
    · subst hip; rw [put_put, ← I.ent i hi j hj]; simp [piv]
    · have e := I.exact hp hi hq hj hip
      rw [← I.plu hp hi hq hj hip] at e
      exact Int.eq_of_mul_eq_mul_left hd0 e
  · intro j hj k hk
    refine Int.eq_of_mul_eq_mul_left hd0 ?_
    rw [← sumTo_mul]
    have cj := I.cra j hj k hk
    have cq := I.cra q hq k hk
    have e : sumTo N (fun i => d * (piv T d p q i j * put B p (A q) i k))
        = sumTo N (fun i => (T p q * (T i j * B i k) + (- T p j) * (T i q * B i k))
            + (if i = p then d * (T p j * A q k) else 0)) := by
      refine sumTo_congr (fun i hi => ?_)
      by_cases hip : i = p
      · subst hip; rw [put_same, if_pos rfl]; simp only [piv, if_pos]; grind
      · have e := I.exact hp hi hq hj hip
        rw [put_ne _ _ hip, if_neg hip, ← Int.mul_assoc, e]; grind
    have e2 : sumTo N (fun i => if i = p then d * (T p j * A q k) else 0) = d * (T p j * A q k) := by
      rw [sumTo_one p hp (fun i _ hip => by simp [hip])]; simp
    rw [e, sumTo_add, sumTo_lin, e2, ← cj, ← cq]
    grind

theorem Inv.flip (I : Inv N C A T d B s) {p : Nat} (hp : p < N) :
    Inv N C A (fun i j => if i = p then - T p j else T i j) d (put B p (fun r => - B p r)) (-s) := by
  have e : ∀ f : Nat → Nat → Int, det N (put f p (fun r => - f p r)) = - det N f := by
    intro f
    have := det_put_mul f hp (-1) (f p)
    rw [put_self] at this
    rw [show (fun r => - f p r) = fun r => (-1) * f p r from by funext r; omega, this]; omega
  refine ⟨by have := I.sq; grind, I.pos, ?_, ?_, ?_⟩
  · rw [e, I.hd]; grind
  · intro i hi j hj
    by_cases hip : i = p
    · subst hip; rw [if_pos rfl, put_put, I.ent i hi j hj]; grind
    · rw [if_neg hip, put_comm _ _ _ (Ne.symm hip)]
      have := e (put B i (A j))
      rw [put_ne _ _ (Ne.symm hip)] at this
      rw [this, I.ent i hi j hj]; grind
  · intro j hj k hk
    rw [I.cra j hj k hk]
    refine sumTo_congr (fun i hi => ?_)
    by_cases hip : i = p
    · subst hip; rw [if_pos rfl, put_same]; grind
    · rw [if_neg hip, put_ne _ _ hip]

/-- the entry of a row in a column of the basis -/
theorem Inv.at_basis (I : Inv N C A T d B s) {i k j : Nat} (hi : i < N) (hk : k < N) (hj : j < C)
    (e : ∀ r, r < N → A j r = B k r) : T i j = if i = k then d else 0 := by
  rw [I.ent i hi j hj]
  have : det N (put B i (A j)) = det N (put B i (B k)) := by
    refine det_congr (fun c hc r hr => ?_)
    by_cases h : c = i
    · subst h; rw [put_same, put_same]; exact e r hr
    · rw [put_ne _ _ h, put_ne _ _ h]
  rw [this]
  by_cases h : i = k
  · subst h; rw [put_self, if_pos rfl, I.hd]
  · rw [if_neg h, det_same _ hi hk h]; · omega
    intro r _; rw [put_same, put_ne _ _ (Ne.symm h)]

theorem natAbs_sign {s : Int} (h : s * s = 1) : s.natAbs = 1 := by
  have h2 : (s * s).natAbs = 1 := by rw [h]; rfl
  rw [Int.natAbs_mul] at h2
  exact Nat.eq_one_of_mul_eq_one_right h2

theorem Inv.bound (I : Inv N C A T d B s) {K : Nat} (hA : ∀ j, j < C → ∀ r, r < N → (A j r).natAbs ≤ K)
    (hB : ∀ i, i < N → ∀ r, r < N → (B i r).natAbs ≤ K) {i j : Nat} (hi : i < N) (hj : j < C) :
    (T i j).natAbs ≤ top N K := by
  rw [I.ent i hi j hj, Int.natAbs_mul, natAbs_sign I.sq, Nat.one_mul]
  refine det_abs (fun c hc r hr => ?_)
  by_cases h : c = i
  · subst h; rw [put_same]; exact hA j hj r hr
  · rw [put_ne _ _ h]; exact hB c hc r hr

theorem Inv.bound_d (I : Inv N C A T d B s) {K : Nat} (hB : ∀ i, i < N → ∀ r, r < N → (B i r).natAbs ≤ K) :
    d.natAbs ≤ top N K := by
  rw [I.hd, Int.natAbs_mul, natAbs_sign I.sq, Nat.one_mul]
  exact det_abs hB

end Sg


namespace Sg

theorem pos_of_mul {c x : Int} (hc : 0 < c) (h : 0 < c * x) : 0 < x := by
  rcases Int.lt_or_le 0 x with h2 | h2
  · exact h2
  · have := Int.mul_nonneg (Int.le_of_lt hc) (show 0 ≤ -x by omega)
    rw [Int.mul_neg] at this; omega

theorem zero_of_mul {c x : Int} (hc : 0 < c) (h : c * x = 0) : x = 0 := by
  rcases Int.mul_eq_zero.mp h with h | h
  · omega
  · exact h

/-- the first of f at these places that is not 0 is above 0 -/
def LexPos (f : Nat → Int) : List Nat → Prop
  | [] => False
  | k :: ks => 0 < f k ∨ (f k = 0 ∧ LexPos f ks)

theorem LexPos.congr {f g : Nat → Int} : ∀ {S : List Nat}, (∀ k ∈ S, f k = g k) → LexPos f S → LexPos g S
  | [], _, h => h
  | k :: ks, e, h => by
    have e1 := e k (by simp)
    rcases h with h | ⟨h, h2⟩
    · left; rw [← e1]; exact h
    · right; exact ⟨by rw [← e1]; exact h, LexPos.congr (fun j hj => e j (by simp [hj])) h2⟩

theorem LexPos.mul {f : Nat → Int} {c : Int} (hc : 0 < c) : ∀ {S : List Nat}, LexPos f S → LexPos (fun k => c * f k) S
  | [], h => h
  | k :: ks, h => by
    rcases h with h | ⟨h, h2⟩
    · left; exact Int.mul_pos hc h
    · right; exact ⟨by show c * f k = 0; rw [h]; omega, LexPos.mul hc h2⟩

theorem LexPos.of_mul {f : Nat → Int} {c : Int} (hc : 0 < c) : ∀ {S : List Nat}, LexPos (fun k => c * f k) S → LexPos f S
  | [], h => h
  | k :: ks, h => by
    rcases h with h | ⟨h, h2⟩
    · left; exact pos_of_mul hc h
    · right; exact ⟨zero_of_mul hc h, LexPos.of_mul hc h2⟩

theorem LexPos.add {f g : Nat → Int} : ∀ {S : List Nat}, LexPos f S → LexPos g S → LexPos (fun k => f k + g k) S
  | [], h, _ => h
  | k :: ks, h, h' => by
    rcases h with h | ⟨h, h2⟩ <;> rcases h' with h' | ⟨h', h2'⟩
    · left; show 0 < f k + g k; omega
    · left; show 0 < f k + g k; omega
    · left; show 0 < f k + g k; omega
    · right; exact ⟨by show f k + g k = 0; omega, LexPos.add h2 h2'⟩

theorem LexPos.tri (f : Nat → Int) : ∀ S : List Nat, LexPos f S ∨ LexPos (fun k => - f k) S ∨ ∀ k ∈ S, f k = 0
  | [] => by right; right; intro k hk; simp at hk
  | k :: ks => by
    rcases Int.lt_trichotomy (f k) 0 with h | h | h
    · right; left; left; show 0 < - f k; omega
    · rcases LexPos.tri f ks with h2 | h2 | h2
      · left; right; exact ⟨h, h2⟩
      · right; left; right; exact ⟨by show - f k = 0; omega, h2⟩
      · right; right; intro j hj
        rcases List.mem_cons.mp hj with e | e
        · rw [e]; exact h
        · exact h2 j e
    · left; left; exact h

/-- a row bounds a column ahead of another one: x at the row, y at the other, with their entries in the column -/
def sooner (x y : Nat → Int) (xq yq : Int) : List Nat → Bool
  | [] => false
  | k :: ks => if x k * yq = y k * xq then sooner x y xq yq ks else decide (x k * yq < y k * xq)

theorem sooner_iff (x y : Nat → Int) (xq yq : Int) : ∀ S : List Nat, sooner x y xq yq S = true ↔ LexPos (fun k => y k * xq - x k * yq) S
  | [] => by simp [sooner, LexPos]
  | k :: ks => by
    simp only [sooner, LexPos]
    by_cases h : x k * yq = y k * xq
    · rw [if_pos h, sooner_iff x y xq yq ks]
      constructor
      · intro h2; right; exact ⟨by omega, h2⟩
      · rintro (h2 | ⟨_, h2⟩)
        · omega
        · exact h2
    · rw [if_neg h, decide_eq_true_iff]
      constructor
      · intro h2; left; omega
      · rintro (h2 | ⟨h2, _⟩)
        · omega
        · omega

/-- a < b ≤ c, by their parts -/
theorem sooner_trans {x y z : Nat → Int} {xq yq zq : Int} (hx : 0 < xq) (hy : 0 < yq) (hz : 0 < zq) {S : List Nat}
    (h1 : sooner x y xq yq S = true) (h2 : sooner y z yq zq S = true) : sooner x z xq zq S = true := by
  rw [sooner_iff] at *
  refine LexPos.of_mul hy ?_
  refine LexPos.congr ?_ (LexPos.add (LexPos.mul hz h1) (LexPos.mul hx h2))
  intro k _
  grind

/-! a vector of integers within bounds as one number -/
def code (W : Int) (f : Nat → Int) : List Nat → Int
  | [] => 0
  | k :: ks => f k * W ^ ks.length + code W f ks

theorem pow_pos' {W : Int} (h : 0 < W) : ∀ n : Nat, 0 < W ^ n
  | 0 => by simp
  | n + 1 => by rw [Int.pow_succ]; exact Int.mul_pos (pow_pos' h n) h

theorem code_abs {R : Int} (f : Nat → Int) : ∀ (S : List Nat), (∀ k ∈ S, -R ≤ f k ∧ f k ≤ R) → 0 ≤ R →
    - ((2 * R + 1) ^ S.length - 1) ≤ 2 * code (2 * R + 1) f S ∧ 2 * code (2 * R + 1) f S ≤ (2 * R + 1) ^ S.length - 1
  | [], _, _ => by simp [code]
  | k :: ks, h, hR => by
    have ih := code_abs f ks (fun j hj => h j (by simp [hj])) hR
    have hk := h k (by simp)
    have hp := pow_pos' (show 0 < 2 * R + 1 by omega) ks.length
    simp only [code, List.length_cons, Int.pow_succ]
    generalize (2 * R + 1) ^ ks.length = Z at *
    generalize code (2 * R + 1) f ks = c at *
    have h1 : f k * Z ≤ R * Z := Int.mul_le_mul_of_nonneg_right hk.2 (by omega)
    have h2 : (-R) * Z ≤ f k * Z := Int.mul_le_mul_of_nonneg_right hk.1 (by omega)
    rw [Int.neg_mul] at h2
    have h3 : Z * (2 * R + 1) = 2 * (R * Z) + Z := by grind
    rw [h3]
    constructor <;> omega

theorem code_lt {R : Int} (f g : Nat → Int) (hR : 0 ≤ R) : ∀ (S : List Nat), (∀ k ∈ S, -R ≤ f k ∧ f k ≤ R) →
    (∀ k ∈ S, -R ≤ g k ∧ g k ≤ R) → LexPos (fun k => f k - g k) S → code (2 * R + 1) g S < code (2 * R + 1) f S
  | [], _, _, h => h.elim
  | k :: ks, hf, hg, h => by
    rcases h with h | ⟨h, h2⟩
    · have h0 : 0 < f k - g k := h
      have a := (code_abs f ks (fun j hj => hf j (by simp [hj])) hR).1
      have b := (code_abs g ks (fun j hj => hg j (by simp [hj])) hR).2
      have hp := pow_pos' (show 0 < 2 * R + 1 by omega) ks.length
      simp only [code]
      generalize (2 * R + 1) ^ ks.length = Z at *
      generalize code (2 * R + 1) f ks = c at *
      generalize code (2 * R + 1) g ks = e at *
      have h1 : (g k + 1) * Z ≤ f k * Z := Int.mul_le_mul_of_nonneg_right (by omega) (by omega)
      rw [Int.add_mul, Int.one_mul] at h1
      omega
    · have := code_lt f g hR ks (fun j hj => hf j (by simp [hj])) (fun j hj => hg j (by simp [hj])) h2
      simp only [code]
      have h0 : f k - g k = 0 := h
      have e : f k = g k := by omega
      rw [e]; omega

/-- a number that all from 1 to n divide -/
def fct : Nat → Nat
  | 0 => 1
  | n + 1 => (n + 1) * fct n
theorem fct_pos : ∀ n, 0 < fct n
  | 0 => by decide
  | n + 1 => Nat.mul_pos (by omega) (fct_pos n)
theorem dvd_fct : ∀ {n d : Nat}, 0 < d → d ≤ n → d ∣ fct n
  | 0, d, h, h2 => by omega
  | n + 1, d, h, h2 => by
    by_cases e : d = n + 1
    · subst e; exact Nat.dvd_mul_right _ _
    · exact Nat.dvd_trans (dvd_fct h (by omega)) (Nat.dvd_mul_left _ _)

end Sg


namespace Sg

/-- what the rows are about: n places, m given columns (each with its goal 0 or 1), the unit columns behind them -/
structure Ask where
  n : Nat
  m : Nat
  G : Nat → Nat → Int      -- the given column j at the place k
  c : Nat → Int            -- its goal
  K : Nat                  -- no entry is greater
  K1 : 1 ≤ K
  hG : ∀ j, j < m → ∀ k, k < n → (G j k).natAbs ≤ K
  hc : ∀ j, j < m → c j = 0 ∨ c j = 1

namespace Ask
variable (a : Ask)
/-- all columns, with the goal at the place n -/
def A (j k : Nat) : Int :=
  if j < a.m then (if k < a.n then a.G j k else a.c j) else (if k = j - a.m then 1 else 0)
def C : Nat := a.m + a.n
def N : Nat := a.n + 1
theorem A_abs {j : Nat} (_ : j < a.C) {k : Nat} (_ : k < a.N) : (a.A j k).natAbs ≤ a.K := by
  have := a.K1
  unfold A
  split
  · rename_i h
    split
    · exact a.hG j h k (by assumption)
    · rcases a.hc j h with e | e <;> rw [e] <;> simp <;> omega
  · split <;> simp <;> omega
theorem A_unit (k r : Nat) : a.A (a.m + k) r = unit k r := by
  have h : ¬ (a.m + k < a.m) := by omega
  have h2 : a.m + k - a.m = k := by omega
  simp only [A, h, h2, if_false, unit]
  by_cases e : r = k
  · subst e; simp
  · rw [if_neg e, if_neg (Ne.symm e)]
theorem A_given {j k : Nat} (hj : j < a.m) (hk : k < a.n) : a.A j k = a.G j k := by
  unfold A; rw [if_pos hj, if_pos hk]
theorem A_goal {j : Nat} (hj : j < a.m) : a.A j a.n = a.c j := by
  unfold A; rw [if_pos hj, if_neg (by omega)]
end Ask

variable {a : Ask}

/-- the state behind the exchanges of the first `at` rows, and later: which rows have a column -/
structure Stand (a : Ask) (T : Nat → Nat → Int) (d : Int) (has : Nat → Bool) (bas : Nat → Nat) (B : Nat → Nat → Int) (s : Int) : Prop where
  inv : Inv a.N a.C a.A T d B s
  kept : ∀ i, i < a.n → has i = true → bas i < a.m ∧ B i = a.A (bas i)
  goal : B a.n = unit a.n
  hB : ∀ i, i < a.N → ∀ r, r < a.N → (B i r).natAbs ≤ a.K

namespace Stand
variable {T : Nat → Nat → Int} {d : Int} {has : Nat → Bool} {bas : Nat → Nat} {B : Nat → Nat → Int} {s : Int}

theorem bound (S : Stand a T d has bas B s) {i j : Nat} (hi : i < a.N) (hj : j < a.C) : (T i j).natAbs ≤ top a.N a.K :=
  S.inv.bound (fun _ hj _ hr => a.A_abs hj hr) S.hB hi hj

theorem bound_d (S : Stand a T d has bas B s) : d.natAbs ≤ top a.N a.K := S.inv.bound_d S.hB

theorem pivot (S : Stand a T d has bas B s) {p q : Nat} (hp : p < a.n) (hq : q < a.m) (h : 0 < T p q) :
    Stand a (piv T d p q) (T p q) (fun i => if i = p then true else has i) (fun i => if i = p then q else bas i) (put B p (a.A q)) s where
  inv := S.inv.pivot (show p < a.n + 1 by omega) (show q < a.m + a.n by omega) h
  kept := by
    intro i hi hh
    by_cases e : i = p
    · subst e; simp only [if_true]; exact ⟨hq, put_same _ _ _⟩
    · rw [if_neg e] at hh; rw [if_neg e]; rw [put_ne _ _ e]; exact S.kept i hi hh
  goal := by rw [put_ne _ _ (by omega)]; exact S.goal
  hB := by
    intro i hi r hr
    by_cases e : i = p
    · subst e; rw [put_same]; exact a.A_abs (show q < a.m + a.n by omega) hr
    · rw [put_ne _ _ e]; exact S.hB i hi r hr

theorem flip (S : Stand a T d has bas B s) {p : Nat} (hp : p < a.n) (h : has p = false) :
    Stand a (fun i j => if i = p then - T p j else T i j) d has bas (put B p (fun r => - B p r)) (-s) where
  inv := S.inv.flip (show p < a.n + 1 by omega)
  kept := by
    intro i hi hh
    have e : i ≠ p := by intro e; subst e; rw [h] at hh; cases hh
    rw [put_ne _ _ e]; exact S.kept i hi hh
  goal := by rw [put_ne _ _ (by omega)]; exact S.goal
  hB := by
    intro i hi r hr
    by_cases e : i = p
    · subst e; rw [put_same, Int.natAbs_neg]; exact S.hB i hi r hr
    · rw [put_ne _ _ e]; exact S.hB i hi r hr

theorem first : Stand a (fun i j => a.A j i) 1 (fun _ => false) (fun _ => 0) unit 1 where
  inv := Inv.first _ _ _
  kept := fun _ _ h => by cases h
  goal := rfl
  hB := fun i _ r _ => by have := a.K1; unfold unit; split <;> simp <;> omega

theorem forget (S : Stand a T d has bas B s) {has' : Nat → Bool} {bas' : Nat → Nat}
    (h : ∀ i, i < a.n → has' i = true → has i = true ∧ bas i = bas' i) : Stand a T d has' bas' B s where
  inv := S.inv
  kept := fun i hi hh => by rw [← (h i hi hh).2]; exact S.kept i hi (h i hi hh).1
  goal := S.goal
  hB := S.hB

/-- a kept row's own column: the divisor there, 0 in the others -/
theorem own (S : Stand a T d has bas B s) {i k : Nat} (hi : i < a.N) (hk : k < a.n) (h : has k = true) :
    T i (bas k) = if i = k then d else 0 := by
  have := S.kept k hk h
  exact S.inv.at_basis hi (show k < a.n + 1 by omega) (show bas k < a.m + a.n by omega) (fun r _ => by rw [this.2])

/-- the row of the goal, column by column -/
theorem goal_row (S : Stand a T d has bas B s) {j : Nat} (hj : j < a.m) :
    T a.n j = sumTo a.n (fun k => a.G j k * T a.n (a.m + k)) + d * a.c j := by
  have hn : a.n < a.N := show a.n < a.n + 1 by omega
  rw [S.inv.ent a.n hn j (show j < a.m + a.n by omega)]
  have h := det_put_sum B hn a.N (fun k => a.A j k) unit
  have e1 : det a.N (put B a.n (fun r => sumTo a.N (fun k => a.A j k * unit k r))) = det a.N (put B a.n (a.A j)) := by
    refine det_congr (fun c hc r hr => ?_)
    by_cases e : c = a.n
    · subst e; rw [put_same, put_same, sumTo_one r hr (fun k _ hk => by simp [unit, hk])]; simp [unit]
    · rw [put_ne _ _ e, put_ne _ _ e]
  rw [e1] at h
  rw [h, ← sumTo_mul]
  show sumTo (a.n + 1) _ = _
  simp only [sumTo]
  congr 1
  · refine sumTo_congr (fun k hk => ?_)
    rw [S.inv.ent a.n hn (a.m + k) (show a.m + k < a.m + a.n by omega)]
    have : det a.N (put B a.n (unit k)) = det a.N (put B a.n (a.A (a.m + k))) := by
      refine det_congr (fun c hc r hr => ?_)
      by_cases e : c = a.n
      · subst e; rw [put_same, put_same, a.A_unit]
      · rw [put_ne _ _ e, put_ne _ _ e]
    rw [this]
    have : a.A j k = a.G j k := a.A_given hj hk
    rw [this]; grind
  · rw [← S.goal, put_self]
    have : a.A j a.n = a.c j := a.A_goal hj
    rw [this]; have := S.inv.hd; grind

end Stand

/-- rows without a column say nothing -/
def Void (a : Ask) (T : Nat → Nat → Int) (has : Nat → Bool) : Prop :=
  ∀ i, i < a.n → has i = false → ∀ j, j < a.m → T i j = 0

theorem Void.pivot {T : Nat → Nat → Int} {d : Int} {has : Nat → Bool} (V : Void a T has) {p q : Nat} (hp : has p = true)
    (hq : q < a.m) : Void a (piv T d p q) has := by
  intro i hi h j hj
  have e : i ≠ p := by intro e; subst e; rw [hp] at h; cases h
  unfold piv
  rw [if_neg e, V i hi h j hj, V i hi h q hq]; simp

/-- the weights of a ray: all that has a column -/
theorem ray {T : Nat → Nat → Int} {d : Int} {has : Nat → Bool} {bas : Nat → Nat} {B : Nat → Nat → Int} {s : Int}
    (S : Stand a T d has bas B s) (V : Void a T has) {q : Nat} (hq : q < a.m) {k : Nat} (hk : k < a.N) :
    d * a.A q k = sumTo a.n (fun i => if has i = true then T i q * a.A (bas i) k else 0) + (if k = a.n then T a.n q else 0) := by
  rw [S.inv.cra q (show q < a.m + a.n by omega) k hk]
  show sumTo (a.n + 1) _ = _
  simp only [sumTo]
  congr 1
  · refine sumTo_congr (fun i hi => ?_)
    by_cases h : has i = true
    · rw [if_pos h, (S.kept i hi h).2]
    · rw [if_neg h, V i hi (by simpa using h) q hq]; omega
  · rw [S.goal]; unfold unit
    by_cases e : k = a.n
    · subst e; simp
    · rw [if_neg e, if_neg (Ne.symm e)]; omega

end Sg


namespace Sg
variable {a : Ask}

/-- the columns of the rows that have one, in order -/
def cols (n : Nat) (has : Nat → Bool) (bas : Nat → Nat) : List Nat := ((List.range n).filter has).map bas

theorem mem_cols {n : Nat} {has : Nat → Bool} {bas : Nat → Nat} {k : Nat} :
    k ∈ cols n has bas ↔ ∃ i, i < n ∧ has i = true ∧ bas i = k := by
  simp only [cols, List.mem_map, List.mem_filter, List.mem_range]
  constructor
  · rintro ⟨i, ⟨h1, h2⟩, h3⟩; exact ⟨i, h1, h2, h3⟩
  · rintro ⟨i, h1, h2, h3⟩; exact ⟨i, ⟨h1, h2⟩, h3⟩

section
variable {T T0 : Nat → Nat → Int} {d d0 : Int} {has : Nat → Bool} {bas bas0 : Nat → Nat} {B B0 : Nat → Nat → Int} {s s0 : Int}

/-- a row by the rows at the beginning -/
theorem by_first (S : Stand a T d has bas B s) (S0 : Stand a T0 d0 has bas0 B0 s0) (V0 : Void a T0 has)
    {i j : Nat} (hi : i < a.n) (hj : j < a.m) :
    d0 * T i j = sumTo a.n (fun k => if has k = true then T0 k j * T i (bas0 k) else 0) := by
  have hiN : i < a.N := show i < a.n + 1 by omega
  have hjC : j < a.C := show j < a.m + a.n by omega
  have h1 := det_put_mul B hiN d0 (a.A j)
  have h2 : det a.N (put B i (fun r => d0 * a.A j r)) = det a.N (put B i (fun r => sumTo a.N (fun k => T0 k j * B0 k r))) := by
    refine det_congr (fun c hc r hr => ?_)
    by_cases e : c = i
    · subst e; rw [put_same, put_same]; exact S0.inv.cra j hjC r hr
    · rw [put_ne _ _ e, put_ne _ _ e]
  rw [h1, det_put_sum _ hiN] at h2
  rw [S.inv.ent i hiN j hjC]
  have h3 : d0 * (s * det a.N (put B i (a.A j))) = s * (d0 * det a.N (put B i (a.A j))) := by grind
  rw [h3, h2, ← sumTo_mul]
  show sumTo (a.n + 1) _ = _
  simp only [sumTo]
  have e0 : det a.N (put B i (B0 a.n)) = 0 := by
    refine det_same _ hiN (show a.n < a.n + 1 by omega) (by omega) (fun r _ => ?_)
    rw [put_same, put_ne _ _ (by omega), S.goal, S0.goal]
  rw [e0, Int.mul_zero, Int.mul_zero, Int.add_zero]
  refine sumTo_congr (fun k hk => ?_)
  by_cases h : has k = true
  · rw [if_pos h, (S0.kept k hk h).2, S.inv.ent i hiN (bas0 k) (show bas0 k < a.m + a.n by have := (S0.kept k hk h).1; omega)]
    grind
  · rw [if_neg h, V0 k hk (by simpa using h) j hj]; omega

theorem indep (S : Stand a T d has bas B s) (S0 : Stand a T0 d0 has bas0 B0 s0) (V0 : Void a T0 has)
    {i : Nat} (hi : i < a.n) (h : has i = true) (z : ∀ k ∈ cols a.n has bas0, T i k = 0) : False := by
  have hb := (S.kept i hi h).1
  have e := by_first S S0 V0 hi hb
  rw [sumTo_zero, S.own (show i < a.n + 1 by omega) hi h, if_pos rfl] at e
  · have h1 := S.inv.pos; have h2 := S0.inv.pos
    have := Int.mul_pos h2 h1
    omega
  · intro k hk
    by_cases hk2 : has k = true
    · rw [if_pos hk2, z _ (mem_cols.mpr ⟨k, hk, hk2, rfl⟩)]; omega
    · rw [if_neg hk2]

/-- the state between two exchanges -/
structure Going (a : Ask) (has : Nat → Bool) (S : List Nat) (T : Nat → Nat → Int) (d : Int) (bas : Nat → Nat) : Prop where
  st : ∃ B s, Stand a T d has bas B s
  vo : Void a T has
  first : ∃ T0 d0 bas0 B0 s0, Stand a T0 d0 has bas0 B0 s0 ∧ Void a T0 has ∧ S = cols a.n has bas0
  lex : ∀ i, i < a.n → has i = true → LexPos (T i) S

def topA (a : Ask) : Nat := top a.N a.K
/-- how far the goal's row can still go down -/
def left (a : Ask) (S : List Nat) (T : Nat → Nat → Int) (d : Int) : Nat :=
  (code (2 * ((topA a : Int) * (fct (topA a) : Int)) + 1) (fun k => T a.n k * ((fct (topA a) : Int) / d)) S
    + (2 * ((topA a : Int) * (fct (topA a) : Int)) + 1) ^ S.length).toNat

theorem Going.in_cols (g : Going a has S T d bas) {k : Nat} (hk : k ∈ S) : k < a.m := by
  obtain ⟨T0, d0, bas0, B0, s0, S0, _, rfl⟩ := g.first
  obtain ⟨i, hi, h, rfl⟩ := mem_cols.mp hk
  exact (S0.kept i hi h).1

theorem div_fct {d : Int} {n : Nat} (h : 0 < d) (h2 : d.natAbs ≤ n) : ((fct n : Int) / d) * d = fct n := by
  have h3 : (d.natAbs : Int) = d := Int.natAbs_of_nonneg (by omega)
  have : d ∣ (fct n : Int) := by
    rw [← h3]; exact Int.natCast_dvd_natCast.mpr (dvd_fct (by omega) h2)
  exact Int.ediv_mul_cancel this

theorem key_bound (S : Stand a T d has bas B s) {j : Nat} (hj : j < a.C) :
    -((topA a : Int) * (fct (topA a) : Int)) ≤ T a.n j * ((fct (topA a) : Int) / d) ∧
    T a.n j * ((fct (topA a) : Int) / d) ≤ (topA a : Int) * (fct (topA a) : Int) := by
  have h1 := S.bound (show a.n < a.n + 1 by omega) hj
  have h2 := S.inv.pos
  have h3 : (T a.n j * ((fct (topA a) : Int) / d)).natAbs ≤ topA a * fct (topA a) := by
    rw [Int.natAbs_mul]
    refine Nat.mul_le_mul h1 ?_
    have : (fct (topA a) : Int) / d ≤ fct (topA a) := Int.ediv_le_self _ (by omega)
    have h0 : 0 ≤ (fct (topA a) : Int) / d := Int.ediv_nonneg (by omega) (by omega)
    omega
  have e : ((topA a * fct (topA a) : Nat) : Int) = (topA a : Int) * (fct (topA a) : Int) := Int.natCast_mul _ _
  rw [← e]
  omega

theorem Going.step (g : Going a has S T d bas) {p q : Nat} (hp : p < a.n) (hpk : has p = true) (hq : q < a.m)
    (hg : 0 < T a.n q) (hpq : 0 < T p q)
    (least : ∀ i, i < a.n → has i = true → 0 < T i q → sooner (T i) (T p) (T i q) (T p q) S = false) :
    Going a has S (piv T d p q) (T p q) (fun i => if i = p then q else bas i) ∧
    left a S (piv T d p q) (T p q) < left a S T d := by
  obtain ⟨B, s, st⟩ := g.st
  obtain ⟨T0, d0, bas0, B0, s0, S0, V0, hS⟩ := g.first
  have hpN : p < a.N := show p < a.n + 1 by omega
  have hqC : q < a.C := show q < a.m + a.n by omega
  have ehas : (fun i => if i = p then true else has i) = has := by
    funext i; by_cases e : i = p
    · subst e; simp [hpk]
    · simp [e]
  have st' := st.pivot hp hq hpq
  rw [ehas] at st'
  have vo' := g.vo.pivot (d := d) hpk hq
  have hSm : ∀ k ∈ S, k < a.C := fun k hk => show k < a.m + a.n by have := g.in_cols hk; omega
  have dpos := st.inv.pos
  have lexp := g.lex p hp hpk
  refine ⟨⟨⟨_, _, st'⟩, vo', ⟨T0, d0, bas0, B0, s0, S0, V0, hS⟩, ?_⟩, ?_⟩
  · intro i hi hh
    by_cases e : i = p
    · subst e; exact LexPos.congr (fun k _ => by simp [piv]) lexp
    · refine LexPos.of_mul dpos ?_
      have ex : ∀ k ∈ S, d * piv T d p q i k = T i k * T p q - T p k * T i q :=
        fun k hk => st.inv.exact hpN (show i < a.n + 1 by omega) hqC (hSm k hk) e
      refine LexPos.congr (fun k hk => (ex k hk).symm) ?_
      by_cases h1 : 0 < T i q
      · rcases LexPos.tri (fun k => T i k * T p q - T p k * T i q) S with h | h | h
        · exact h
        · have h2 : sooner (T i) (T p) (T i q) (T p q) S = true := by
            rw [sooner_iff]; exact LexPos.congr (fun k _ => by omega) h
          rw [least i hi hh h1] at h2; cases h2
        · exfalso
          refine indep st' S0 V0 hi hh (fun k hk => ?_)
          rw [← hS] at hk
          have := ex k hk
          have h3 : T i k * T p q - T p k * T i q = 0 := h k hk
          rw [h3] at this
          exact zero_of_mul dpos this
      · by_cases h2 : T i q = 0
        · refine LexPos.congr (fun k _ => ?_) (LexPos.mul hpq (g.lex i hi hh))
          rw [h2]; grind
        · refine LexPos.congr (fun k _ => ?_) (LexPos.add (LexPos.mul hpq (g.lex i hi hh)) (LexPos.mul (show 0 < - T i q by omega) lexp))
          grind
  · have hn : a.n < a.N := show a.n < a.n + 1 by omega
    have b1 := st.bound_d
    have b2 := st'.bound_d
    have f1 := div_fct (n := topA a) dpos b1
    have f2 := div_fct (n := topA a) hpq b2
    have kb := fun k hk => key_bound st (hSm k hk)
    have kb' := fun k hk => key_bound st' (hSm k hk)
    have Rpos : 0 ≤ (topA a : Int) * (fct (topA a) : Int) := Int.mul_nonneg (by omega) (by omega)
    have ex : ∀ k ∈ S, d * piv T d p q a.n k = T a.n k * T p q - T p k * T a.n q :=
      fun k hk => st.inv.exact hpN hn hqC (hSm k hk) (by omega)
    have fp : 0 < (fct (topA a) : Int) := by have := fct_pos (topA a); omega
    unfold left
    have lt := code_lt (R := (topA a : Int) * (fct (topA a) : Int)) (fun k => T a.n k * ((fct (topA a) : Int) / d))
      (fun k => piv T d p q a.n k * ((fct (topA a) : Int) / T p q)) Rpos S kb kb' (by
        refine LexPos.of_mul (Int.mul_pos dpos hpq) ?_
        refine LexPos.congr (fun k hk => ?_) (LexPos.mul (Int.mul_pos fp hg) lexp)
        have e1 := ex k hk
        generalize (fct (topA a) : Int) / d = x at *
        generalize (fct (topA a) : Int) / T p q = y at *
        generalize piv T d p q a.n k = z at *
        generalize (fct (topA a) : Int) = F at *
        generalize T p q = P at *
        have : d * P * (T a.n k * x - z * y) = T a.n k * P * (x * d) - (d * z) * (y * P) := by grind
        rw [this, f1, f2, e1]; grind)
    have low := (code_abs (R := (topA a : Int) * (fct (topA a) : Int)) (fun k => piv T d p q a.n k * ((fct (topA a) : Int) / T p q)) S kb' Rpos).1
    have pp := pow_pos' (show 0 < 2 * ((topA a : Int) * (fct (topA a) : Int)) + 1 by omega) S.length
    generalize (2 * ((topA a : Int) * (fct (topA a) : Int)) + 1) ^ S.length = Z at *
    generalize code (2 * ((topA a : Int) * (fct (topA a) : Int)) + 1) (fun k => piv T d p q a.n k * ((fct (topA a) : Int) / T p q)) S = c1 at *
    generalize code (2 * ((topA a : Int) * (fct (topA a) : Int)) + 1) (fun k => T a.n k * ((fct (topA a) : Int) / d)) S = c2 at *
    omega

end
end Sg


set_option Elab.async false
set_option maxRecDepth 100000
namespace K8
open PySem L2 Dl
local macro_rules | `(tactic| walk_at "vis") => `(tactic| first | exact Or.inl rfl | exact Or.inr (Or.inl rfl) | exact Or.inr (Or.inr rfl))
local macro_rules | `(tactic| walk_at "sto") => `(tactic| first | exact ⟨rfl, Or.inl rfl, Or.inl rfl⟩ | exact ⟨rfl, Or.inl rfl, Or.inr rfl⟩ | exact ⟨rfl, Or.inr rfl, Or.inl rfl⟩)
local macro_rules | `(tactic| walk_at "var") => `(tactic| first
  | exact ev_var 0 rfl (by walk_at "vis") rfl | exact ev_var 1 rfl (by walk_at "vis") rfl | exact ev_var 2 rfl (by walk_at "vis") rfl | exact ev_var 3 rfl (by walk_at "vis") rfl
  | exact ev_var 4 rfl (by walk_at "vis") rfl | exact ev_var 5 rfl (by walk_at "vis") rfl | exact ev_var 6 rfl (by walk_at "vis") rfl | exact ev_var 7 rfl (by walk_at "vis") rfl
  | exact ev_var 8 rfl (by walk_at "vis") rfl | exact ev_var 9 rfl (by walk_at "vis") rfl | exact ev_var 10 rfl (by walk_at "vis") rfl | exact ev_var 11 rfl (by walk_at "vis") rfl
  | exact ev_var 12 rfl (by walk_at "vis") rfl | exact ev_var 13 rfl (by walk_at "vis") rfl | exact ev_var 14 rfl (by walk_at "vis") rfl | exact ev_var 15 rfl (by walk_at "vis") rfl)

local macro_rules | `(tactic| walk_at "ev") => `(tactic| first
  | exact ev_int | exact ev_bl | exact ev_str | exact ev_non
  | walk_at "var"
  | (refine ev_neg ?_ <;> walk_at "ev")
  | (refine ev_add ?_ ?_ <;> walk_at "ev")
  | (refine ev_sub ?_ ?_ <;> walk_at "ev"))

local macro_rules | `(tactic| walk_at "blk") => `(tactic| (dsimp only; decide +kernel))
def top (i : Nat) : Stmt := PySem.Challenge.pw_tripmeans_k03_whole_follows_by_corners_a.main.body.getD i (.Pass ⟨0, 0, 0, 0⟩)

/-- a def of the module that keeps its promise -/
def Has (P : Program) (w : World) (K : Frag) (mg : Str → Option Value) (base : Heap) (k : Nat) (x : Str) (sp : Sp) : Prop :=
  ∃ (f : Addr) (fd : FuncData) (ps : List Str), mg x = some (.ref f) ∧ PySem.W.keepIn K (.ref f) = true ∧ Binds K fd ps [] ∧ FnOk P w K mg base CX0 k f fd ps sp
/-- the built-ins that the module leaves as they are -/
structure Mg (mg : Str → Option Value) : Prop where
  len : mg "len" = none
  range : mg "range" = none
  enumerate : mg "enumerate" = none
  zip : mg "zip" = none
  list : mg "list" = none
  tuple : mg "tuple" = none
  int : mg "int" = none
  max : mg "max" = none
  isinstance : mg "isinstance" = none
  bool : mg "bool" = none
  all : mg "all" = none
  sum : mg "sum" = none
  abs : mg "abs" = none
  gcd : mg "gcd" = some (.builtin "math.gcd")

/-- a row, rows as data -/
def rowD (r : List Int) : D := .list (r.map PyData.int)
def rowsD (rs : List (List Int)) : D := .list (rs.map rowD)
theorem get_int {ns : List Int} {i : Nat} {d : D} (h : (ns.map PyData.int)[i]? = some d) : ∃ n, ns[i]? = some n ∧ d = .int n := by
  rw [List.getElem?_map] at h
  cases e : ns[i]? with
  | none => rw [e] at h; cases h
  | some n => rw [e] at h; cases h; exact ⟨n, rfl, rfl⟩
theorem mem_int {ns : List Int} {d : D} (h : d ∈ ns.map PyData.int) : ∃ n, n ∈ ns ∧ d = .int n := by
  obtain ⟨n, hn, rfl⟩ := List.mem_map.mp h; exact ⟨n, hn, rfl⟩
theorem get_row {rs : List (List Int)} {i : Nat} {d : D} (h : (rs.map rowD)[i]? = some d) : ∃ r, rs[i]? = some r ∧ d = rowD r := by
  rw [List.getElem?_map] at h
  cases e : rs[i]? with
  | none => rw [e] at h; cases h
  | some n => rw [e] at h; cases h; exact ⟨n, rfl, rfl⟩

section
variable {P : Program} {w : World} {K : Frag} {mg : Str → Option Value} {base : Heap} {k : Nat} {f : Addr} {fd : FuncData}

/-! common_divisor(row) -/
abbrev sCd : Stmt := top 10
theorem scCd : FnScope ["row", "found", "x"] ["row"] (defScope sCd) := ⟨rfl, rfl, rfl, by decide +kernel, rfl, by decide +kernel, by decide +kernel⟩
def gcdL (l : List Int) : Int := l.foldl (fun a x => ((Nat.gcd a.natAbs x.natAbs : Nat) : Int)) 0
def pcCd : List AD → (D → Prop) → Prop := fun ads R => ∃ ns : List Int, ads = [.dat (rowD ns)] ∧ R = (· = .int (gcdL ns))
theorem ok_Cd (m : Mg mg) (F : Fun K "common_divisor" "common_divisor" sCd f fd) : FnOk P w K mg base CX0 (k + 1) f fd ["row"] (spD K pcCd) := by
  refine fn_mkD F scCd (fun ads R h => by obtain ⟨ns, rfl, _⟩ := h; rfl) fun c ads R h hz => ?_
  obtain ⟨ns, rfl, rfl⟩ := h
  refine run_to (rs_set (i := 1) (by walk_at "sto") ev_int) ?_
  refine run_cons (rs_for (items := ns.map PyData.int) (wk_list (by walk_at "var")) (tg_name (i := 2) (by walk_at "sto"))
    (fun i ds' => ∃ z, ds' = [.dat (rowD ns), .dat (.int (gcdL (ns.take i))), z]) ⟨_, rfl⟩ ?_ (fun ds' h => h)) ?_
  · rintro i d ds' hi ⟨z, rfl⟩
    obtain ⟨n, hn, rfl⟩ := get_int hi
    refine ⟨_, rfl, run_one (rs_setP (i := 1) (by walk_at "sto") (ev_gcd rfl m.gcd (by walk_at "var") (by walk_at "var")) (fun d hd => ⟨.dat (.int n), ?_⟩))⟩
    subst hd
    rw [List.take_add_one, hn]
    simp [setDs, gcdL, List.foldl_append]
  · rintro ds' ⟨z, rfl⟩
    exact run_one (rs_ret (by walk_at "var") (by simp))

/-! divided(row) -/
abbrev sDv : Stmt := top 11
theorem scDv : FnScope ["row", "by", "x"] ["row"] (defScope sDv) := ⟨rfl, rfl, rfl, by decide +kernel, rfl, by decide +kernel, by decide +kernel⟩
def byL (l : List Int) : Int := if gcdL l = 0 then 1 else gcdL l
def divL (l : List Int) : List Int := l.map (· / byL l)
def pcDv : List AD → (List D → Prop) → Prop := fun ads R => ∃ ns : List Int, ads = [.dat (rowD ns)] ∧ ns.length ≤ Lm ∧ 0 < byL ns ∧ (byL ns).natAbs < 2 ^ 400 ∧ R = (· = (divL ns).map PyData.int)
theorem ok_Dv (m : Mg mg) (F : Fun K "divided" "divided" sDv f fd) (hCd : Has P w K mg base k "common_divisor" (spD K pcCd)) : FnOk P w K mg base CX0 (k + 1) f fd ["row"] (spF K pcDv) := by
  refine fn_mkF F scDv (fun ads R h => by obtain ⟨ns, rfl, _⟩ := h; rfl) fun c ads R h hz => ?_
  obtain ⟨ns, rfl, hlen, hpos, hbd, rfl⟩ := h
  refine run_to (ds1 := [.dat (rowD ns), .dat (.int (byL ns)), .un]) (rs_setP (i := 1) (P := (· = .int (byL ns))) (by walk_at "sto") (ev_orI (i := gcdL ns) ?_ ?_ ?_) ?_) ?_
  · exact ev_callD (PA := (· = [.dat (rowD ns)])) (Pc := pcCd) ⟨hCd⟩ rfl (ed_dat (by walk_at "var") ed_nil) (fun l hl => ⟨_, ⟨ns, hl, rfl⟩, fun d hd => hd⟩)
  · intro h; simp [byL, h]
  · intro h; exact ev_one ((ev_int).imp (fun d hd => by rw [hd]; simp [byL, h]))
  · intro d hd; subst hd; rfl
  refine run_one (rs_retF (ef_map [("x", 2)] (items := ns.map PyData.int) (intF (· / byL ns)) (by walk_at "blk") (wk_list (by walk_at "var")) (tg_name (i := 2) (by walk_at "sto")) (by simpa using hlen) ?_) ?_)
  · intro d hd
    obtain ⟨n, hn, rfl⟩ := mem_int hd
    exact ⟨_, rfl, by simp, ev_div (i := n) (j := byL ns) (by walk_at "var") (by walk_at "var") (wide_div hpos hbd (by decide) (by decide))⟩
  · intro l hl; rw [hl, map_intF]; rfl
end
end K8


set_option Elab.async false
set_option maxRecDepth 100000
set_option exponentiation.threshold 2000
set_option linter.all false
set_option maxHeartbeats 1000000
namespace K8
open PySem L2 Dl
local macro_rules | `(tactic| walk_at "vis") => `(tactic| first | exact Or.inl rfl | exact Or.inr (Or.inl rfl) | exact Or.inr (Or.inr rfl))
local macro_rules | `(tactic| walk_at "sto") => `(tactic| first | exact ⟨rfl, Or.inl rfl, Or.inl rfl⟩ | exact ⟨rfl, Or.inl rfl, Or.inr rfl⟩ | exact ⟨rfl, Or.inr rfl, Or.inl rfl⟩)
local macro_rules | `(tactic| walk_at "var") => `(tactic| first
  | exact ev_var 0 rfl (by walk_at "vis") rfl | exact ev_var 1 rfl (by walk_at "vis") rfl | exact ev_var 2 rfl (by walk_at "vis") rfl | exact ev_var 3 rfl (by walk_at "vis") rfl
  | exact ev_var 4 rfl (by walk_at "vis") rfl | exact ev_var 5 rfl (by walk_at "vis") rfl | exact ev_var 6 rfl (by walk_at "vis") rfl | exact ev_var 7 rfl (by walk_at "vis") rfl
  | exact ev_var 8 rfl (by walk_at "vis") rfl | exact ev_var 9 rfl (by walk_at "vis") rfl | exact ev_var 10 rfl (by walk_at "vis") rfl | exact ev_var 11 rfl (by walk_at "vis") rfl
  | exact ev_var 12 rfl (by walk_at "vis") rfl | exact ev_var 13 rfl (by walk_at "vis") rfl | exact ev_var 14 rfl (by walk_at "vis") rfl | exact ev_var 15 rfl (by walk_at "vis") rfl)

local macro_rules | `(tactic| walk_at "ev") => `(tactic| first
  | exact ev_int | exact ev_bl | exact ev_str | exact ev_non
  | walk_at "var"
  | (refine ev_neg ?_ <;> walk_at "ev")
  | (refine ev_add ?_ ?_ <;> walk_at "ev")
  | (refine ev_sub ?_ ?_ <;> walk_at "ev"))

local macro_rules | `(tactic| walk_at "blk") => `(tactic| (dsimp only; decide +kernel))
/-! rows of ints, read at a place -/
theorem at_row {r : List Int} {k : Nat} (h : k < r.length) : atI (r.map PyData.int) (k : Int) = some (.int (r.getD k 0)) := by
  refine atI_nat ?_
  rw [List.getElem?_map, List.getElem?_eq_getElem h]; simp [List.getD, h]
theorem at_rows {rs : List (List Int)} {k : Nat} (h : k < rs.length) : atI (rs.map rowD) (k : Int) = some (rowD (rs.getD k [])) := by
  refine atI_nat ?_
  rw [List.getElem?_map, List.getElem?_eq_getElem h]; simp [List.getD, h]
theorem at_rows_last {rs : List (List Int)} {r : List Int} : atI ((rs ++ [r]).map rowD) (-1) = some (rowD r) := by
  rw [List.map_append]; exact atI_last _ _
/-- numbers that the machine's products and quotients are told for -/
def Sm (x : Int) : Prop := x.natAbs < 2 ^ 400
theorem Sm.mul {x y : Int} (hx : Sm x) (hy : Sm y) : CMulW x y := wide_mul hx hy (by decide) (by decide) (by decide)
def SmRow (r : List Int) : Prop := ∀ x ∈ r, Sm x
theorem SmRow.at {r : List Int} (h : SmRow r) (k : Nat) : Sm (r.getD k 0) := by
  by_cases hk : k < r.length
  · rw [List.getD_eq_getElem?_getD, List.getElem?_eq_getElem hk]; exact h _ (List.getElem_mem hk)
  · rw [List.getD_eq_getElem?_getD, List.getElem?_eq_none (by omega)]; show (0 : Int).natAbs < _; decide
def natD (l : List Nat) : D := .list (l.map fun k : Nat => PyData.int (k : Int))
theorem get_nat {ns : List Nat} {i : Nat} {d : D} (h : (ns.map fun k : Nat => PyData.int (k : Int))[i]? = some d) : ∃ n : Nat, ns[i]? = some n ∧ d = .int n := by
  rw [List.getElem?_map] at h
  cases e : ns[i]? with
  | none => rw [e] at h; cases h
  | some n => rw [e] at h; cases h; exact ⟨n, rfl, rfl⟩

section
variable {P : Program} {w : World} {K : Frag} {mg : Str → Option Value} {base : Heap} {k : Nat} {f : Addr} {fd : FuncData}

/-! is_sooner(row, other, column, start) -/
abbrev sIs : Stmt := top 20
theorem scIs : FnScope ["row", "other", "column", "start", "k", "one", "two"] ["row", "other", "column", "start"] (defScope sIs) := ⟨rfl, rfl, rfl, by decide +kernel, rfl, by decide +kernel, by decide +kernel⟩
def soonerL (row other : List Int) (q : Nat) : List Nat → Bool
  | [] => false
  | k :: ks => if row.getD k 0 * other.getD q 0 = other.getD k 0 * row.getD q 0 then soonerL row other q ks else decide (row.getD k 0 * other.getD q 0 < other.getD k 0 * row.getD q 0)
def pcIs : List AD → (D → Prop) → Prop := fun ads R => ∃ (row other : List Int) (q : Nat) (st : List Nat), ads = [.dat (rowD row), .dat (rowD other), .dat (.int q), .dat (natD st)] ∧ row.length = other.length ∧ q < row.length ∧ (∀ k ∈ st, k < row.length) ∧ SmRow row ∧ SmRow other ∧ R = (· = .bool (soonerL row other q st))
theorem ok_Is (F : Fun K "is_sooner" "is_sooner" sIs f fd) : FnOk P w K mg base CX0 (k + 1) f fd ["row", "other", "column", "start"] (spD K pcIs) := by
  refine fn_mkD F scIs (fun ads R h => by obtain ⟨_, _, _, _, rfl, _⟩ := h; rfl) fun c ads R h hz => ?_
  obtain ⟨row, other, q, st, rfl, hl, hq, hst, sr, so, rfl⟩ := h
  refine run_cons (rs_for (items := st.map fun k : Nat => PyData.int (k : Int)) (wk_list (by walk_at "var")) (tg_name (i := 4) (by walk_at "sto"))
    (fun i ds' => ∃ z1 z2 z3, ds' = [.dat (rowD row), .dat (rowD other), .dat (.int q), .dat (natD st), z1, z2, z3] ∧ soonerL row other q st = soonerL row other q (st.drop i)) ⟨_, _, _, rfl, rfl⟩ ?_ (fun ds' h => h)) ?_
  · rintro i d ds' hi ⟨z1, z2, z3, rfl, hs⟩
    obtain ⟨n, hn, rfl⟩ := get_nat hi
    have hnl : n < row.length := hst n (List.mem_of_getElem? hn)
    have hdrop : st.drop i = n :: st.drop (i + 1) := by
      have hlt := (List.getElem?_eq_some_iff.mp hn)
      obtain ⟨h1, h2⟩ := hlt
      rw [List.drop_eq_getElem_cons h1, h2]
    refine ⟨_, rfl, run_to (ds1 := [.dat (rowD row), .dat (rowD other), .dat (.int q), .dat (natD st), .dat (.int n), .dat (.int (row.getD n 0 * other.getD q 0)), .dat (.int (other.getD n 0 * row.getD q 0))])
      (rs_par (i := 5) (j := 6) (PA := (· = .int (row.getD n 0 * other.getD q 0))) (PB := (· = .int (other.getD n 0 * row.getD q 0))) rfl rfl (by decide) rfl rfl
        (ev_mul (ev_ixL (by walk_at "var") (by walk_at "var") (at_row hnl)) (ev_ixL (by walk_at "var") (by walk_at "var") (at_row (by omega))) ((sr.at n).mul (so.at q)))
        (ev_mul (ev_ixL (by walk_at "var") (by walk_at "var") (at_row (by omega))) (ev_ixL (by walk_at "var") (by walk_at "var") (at_row hq)) ((so.at n).mul (sr.at q))) (fun d e hd he => by subst hd; subst he; rfl)) ?_⟩
    refine run_one (rs_if (et_neI (by walk_at "var") (by walk_at "var")) (fun hb => ?_) (fun hb => ?_))
    · refine run_one (rs_ret (ev_lt (by walk_at "var") (by walk_at "var")) ?_)
      have hne : ¬ (row.getD n 0 * other.getD q 0 = other.getD n 0 * row.getD q 0) := by simpa using hb.symm
      show PyData.bool _ = PyData.bool (soonerL row other q st)
      rw [hs, hdrop]; simp only [soonerL]; rw [if_neg hne]
    · have he : row.getD n 0 * other.getD q 0 = other.getD n 0 * row.getD q 0 := by simpa using hb.symm
      exact run_nil ⟨_, _, _, rfl, by rw [hs, hdrop]; simp only [soonerL]; rw [if_pos he]⟩
  · rintro ds' ⟨z1, z2, z3, rfl, hs⟩
    refine run_one (rs_ret ev_bl ?_)
    rw [hs]; simp [soonerL]

/-! first_column(row, many) -/
abbrev sFc : Stmt := top 17
theorem scFc : FnScope ["row", "many", "column"] ["row", "many"] (defScope sFc) := ⟨rfl, rfl, rfl, by decide +kernel, rfl, by decide +kernel, by decide +kernel⟩
/-- the first of the places from k on, n of them, at which the row is not 0 -/
def firstNZ (row : List Int) (k : Nat) : Nat → Int
  | 0 => -1
  | n + 1 => if row.getD k 0 = 0 then firstNZ row (k + 1) n else k
def pcFc : List AD → (D → Prop) → Prop := fun ads R => ∃ (row : List Int) (m : Nat), ads = [.dat (rowD row), .dat (.int m)] ∧ m ≤ row.length ∧ row.length ≤ 1000 ∧ R = (· = .int (firstNZ row 0 m))
theorem ok_Fc (m : Mg mg) (F : Fun K "first_column" "first_column" sFc f fd) : FnOk P w K mg base CX0 (k + 1) f fd ["row", "many"] (spD K pcFc) := by
  refine fn_mkD F scFc (fun ads R h => by obtain ⟨_, _, rfl, _⟩ := h; rfl) fun c ads R h hz => ?_
  obtain ⟨row, n, rfl, hn, hl, rfl⟩ := h
  refine run_cons (rs_for (items := intsD 0 n) (wk_range1 (n := (n : Int)) rfl m.range (by walk_at "var") (by omega) (by omega)) (tg_name (i := 2) (by walk_at "sto"))
    (fun i ds' => ∃ z, ds' = [.dat (rowD row), .dat (.int n), z] ∧ firstNZ row 0 n = firstNZ row i (n - i)) ⟨_, rfl, rfl⟩ ?_ (fun ds' h => h)) ?_
  · rintro i d ds' hi ⟨z, rfl, hs⟩
    obtain ⟨hi, rfl⟩ := intsD_get hi
    rw [Int.zero_add]
    refine ⟨_, rfl, run_one (rs_if (et_neI (ev_ixL (by walk_at "var") (by walk_at "var") (at_row (by omega))) ev_int) (fun hb => ?_) (fun hb => ?_))⟩
    · have hne : ¬ row.getD i 0 = 0 := by simpa using hb.symm
      refine run_one (rs_ret (by walk_at "var") ?_)
      show PyData.int _ = PyData.int _
      rw [hs, show n - i = (n - (i + 1)) + 1 from by omega]; simp only [firstNZ]; rw [if_neg hne]
    · have he : row.getD i 0 = 0 := by simpa using hb.symm
      refine run_nil ⟨_, rfl, ?_⟩
      rw [hs, show n - i = (n - (i + 1)) + 1 from by omega]; simp only [firstNZ]; rw [if_pos he]
  · rintro ds' ⟨z, rfl, hs⟩
    refine run_one (rs_ret (ev_neg ev_int) ?_)
    rw [hs, intsD_length]; simp [firstNZ]
end

end K8

set_option Elab.async false
set_option maxRecDepth 100000
set_option exponentiation.threshold 2000
set_option linter.all false
set_option maxHeartbeats 1000000
namespace K8
open PySem L2 Dl
local macro_rules | `(tactic| walk_at "vis") => `(tactic| first | exact Or.inl rfl | exact Or.inr (Or.inl rfl) | exact Or.inr (Or.inr rfl))
local macro_rules | `(tactic| walk_at "sto") => `(tactic| first | exact ⟨rfl, Or.inl rfl, Or.inl rfl⟩ | exact ⟨rfl, Or.inl rfl, Or.inr rfl⟩ | exact ⟨rfl, Or.inr rfl, Or.inl rfl⟩)
local macro_rules | `(tactic| walk_at "var") => `(tactic| first
  | exact ev_var 0 rfl (by walk_at "vis") rfl | exact ev_var 1 rfl (by walk_at "vis") rfl | exact ev_var 2 rfl (by walk_at "vis") rfl | exact ev_var 3 rfl (by walk_at "vis") rfl
  | exact ev_var 4 rfl (by walk_at "vis") rfl | exact ev_var 5 rfl (by walk_at "vis") rfl | exact ev_var 6 rfl (by walk_at "vis") rfl | exact ev_var 7 rfl (by walk_at "vis") rfl
  | exact ev_var 8 rfl (by walk_at "vis") rfl | exact ev_var 9 rfl (by walk_at "vis") rfl | exact ev_var 10 rfl (by walk_at "vis") rfl | exact ev_var 11 rfl (by walk_at "vis") rfl
  | exact ev_var 12 rfl (by walk_at "vis") rfl | exact ev_var 13 rfl (by walk_at "vis") rfl | exact ev_var 14 rfl (by walk_at "vis") rfl | exact ev_var 15 rfl (by walk_at "vis") rfl)

local macro_rules | `(tactic| walk_at "ev") => `(tactic| first
  | exact ev_int | exact ev_bl | exact ev_str | exact ev_non
  | walk_at "var"
  | (refine ev_neg ?_ <;> walk_at "ev")
  | (refine ev_add ?_ ?_ <;> walk_at "ev")
  | (refine ev_sub ?_ ?_ <;> walk_at "ev"))

local macro_rules | `(tactic| walk_at "blk") => `(tactic| (dsimp only; decide +kernel))
theorem cut_take {α : Type} (l : List α) (k : Nat) : cutD l none (some (k : Int)) = l.take k := by
  unfold cutD; rw [HT.sIx_none, HT.sIx_nat, List.drop_zero, Nat.sub_zero]
  rcases Nat.le_total k l.length with h | h
  · rw [Nat.min_eq_left h]
  · rw [Nat.min_eq_right h, List.take_of_length_le (Nat.le_refl _), List.take_of_length_le h]
theorem cut_drop {α : Type} (l : List α) (k : Nat) : cutD l (some (k : Int)) none = l.drop k := by
  unfold cutD; rw [HT.sIx_none, HT.sIx_nat]
  rcases Nat.le_total k l.length with h | h
  · rw [Nat.min_eq_left h, List.take_of_length_le (by simp)]
  · rw [Nat.min_eq_right h, Nat.sub_self, List.take_zero, List.drop_eq_nil_of_le h]
theorem foldmax_mem : ∀ (r : List Int) (n : Int), r.foldl max n ∈ n :: r
  | [], n => by simp
  | x :: r, n => by
    have := foldmax_mem r (max n x)
    rw [List.foldl_cons]
    rcases List.mem_cons.mp this with h | h
    · rcases Int.le_total n x with h2 | h2
      · rw [Int.max_eq_right h2] at *; rw [h]; simp
      · rw [Int.max_eq_left h2] at *; rw [h]; simp
    · simp [h]
theorem maxZ_mem {ns : List Int} (h : ns ≠ []) : maxZ ns ∈ ns := by
  cases ns with
  | nil => exact absurd rfl h
  | cons n r => exact foldmax_mem r n
theorem foldmax_ge : ∀ (r : List Int) (n : Int), n ≤ r.foldl max n ∧ ∀ x ∈ r, x ≤ r.foldl max n
  | [], n => ⟨Int.le_refl _, fun x h => by simp at h⟩
  | y :: r, n => by
    have ⟨h1, h2⟩ := foldmax_ge r (max n y)
    rw [List.foldl_cons]
    refine ⟨Int.le_trans (Int.le_max_left _ _) h1, fun x hx => ?_⟩
    rcases List.mem_cons.mp hx with e | e
    · rw [e]; exact Int.le_trans (Int.le_max_right _ _) h1
    · exact h2 x e
theorem maxZ_ge {ns : List Int} {x : Int} (h : x ∈ ns) : x ≤ maxZ ns := by
  cases ns with
  | nil => simp at h
  | cons n r =>
    rcases List.mem_cons.mp h with e | e
    · rw [e]; exact (foldmax_ge r n).1
    · exact (foldmax_ge r n).2 x e

section
variable {P : Program} {w : World} {K : Frag} {mg : Str → Option Value} {base : Heap} {k : Nat} {f : Addr} {fd : FuncData}

/-! best_column(goal, many) -/
abbrev sBc : Stmt := top 18
theorem scBc : FnScope ["goal", "many", "most"] ["goal", "many"] (defScope sBc) := ⟨rfl, rfl, rfl, by decide +kernel, rfl, by decide +kernel, by decide +kernel⟩
def bestC (goal : List Int) (m : Nat) : Int := if 0 < maxZ (goal.take m) then goal.idxOf (maxZ (goal.take m)) else -1
def pcBc : List AD → (D → Prop) → Prop := fun ads R => ∃ (goal : List Int) (m : Nat), ads = [.dat (rowD goal), .dat (.int m)] ∧ R = (· = .int (bestC goal m))
theorem ok_Bc (m : Mg mg) (F : Fun K "best_column" "best_column" sBc f fd) : FnOk P w K mg base CX0 (k + 1) f fd ["goal", "many"] (spD K pcBc) := by
  refine fn_mkD F scBc (fun ads R h => by obtain ⟨_, _, rfl, _⟩ := h; rfl) fun c ads R h hz => ?_
  obtain ⟨goal, n, rfl, rfl⟩ := h
  have e : cutD (goal.map PyData.int) none (some (n : Int)) = (goal.take n).map PyData.int := by rw [cut_take, List.map_take]
  refine run_to (rs_set (i := 2) (d := .int (maxZ (goal.take n))) (by walk_at "sto") (ev_maxDef0 rfl m.max ((ev_slL (l := goal.map PyData.int) (by walk_at "var") eo_none (eo_some (by walk_at "var"))).is (by rw [e])))) ?_
  refine run_one (rs_ret (d := .int (bestC goal n)) (ev_if (PT := (· = decide (0 < maxZ (goal.take n)))) (et_gt (by walk_at "var") ev_int) (fun h => ?_) (fun h => ?_)) rfl)
  · have h0 : 0 < maxZ (goal.take n) := by simpa using h.symm
    have hne : goal.take n ≠ [] := by intro z; rw [z] at h0; exact absurd h0 (by decide)
    refine (ev_indexI (ns := goal) (by walk_at "var") (by walk_at "var") (List.mem_of_mem_take (maxZ_mem hne))).is ?_
    unfold bestC; rw [if_pos h0]
  · have h0 : ¬ 0 < maxZ (goal.take n) := by simpa using h.symm
    refine (ev_neg ev_int).is ?_
    unfold bestC; rw [if_neg h0]

/-! leaving_row(rows, column, start) -/
abbrev sLr : Stmt := top 19
theorem scLr : FnScope ["rows", "column", "start", "found", "at"] ["rows", "column", "start"] (defScope sLr) := ⟨rfl, rfl, rfl, by decide +kernel, rfl, by decide +kernel, by decide +kernel⟩
def leaveStep (rows : List (List Int)) (q : Nat) (st : List Nat) (found : Int) (at_ : Nat) : Int :=
  if decide (0 < (rows.getD at_ []).getD q 0) && (decide (found < 0) || soonerL (rows.getD at_ []) (rows.getD found.toNat []) q st) then at_ else found
def leaveL (rows : List (List Int)) (q : Nat) (st : List Nat) (n : Nat) : Int := (List.range n).foldl (leaveStep rows q st) (-1)
/-- rows of one length C, of numbers that are not too great -/
structure Rect (rows : List (List Int)) (C : Nat) : Prop where
  len : ∀ r ∈ rows, r.length = C
  sm : ∀ r ∈ rows, SmRow r
  most : C ≤ 1000
  few : rows.length ≤ 1000
theorem Rect.at_len {rows : List (List Int)} {C k : Nat} (h : Rect rows C) (hk : k < rows.length) : (rows.getD k []).length = C := by
  rw [List.getD_eq_getElem?_getD, List.getElem?_eq_getElem hk]; exact h.len _ (List.getElem_mem hk)
theorem Rect.at_sm {rows : List (List Int)} {C k : Nat} (h : Rect rows C) (hk : k < rows.length) : SmRow (rows.getD k []) := by
  rw [List.getD_eq_getElem?_getD, List.getElem?_eq_getElem hk]; exact h.sm _ (List.getElem_mem hk)
theorem leaveL_lt (rows : List (List Int)) (q : Nat) (st : List Nat) : ∀ n, -1 ≤ leaveL rows q st n ∧ leaveL rows q st n < n
  | 0 => by simp [leaveL]
  | n + 1 => by
    have ih := leaveL_lt rows q st n
    have e : leaveL rows q st (n + 1) = leaveStep rows q st (leaveL rows q st n) n := by
      unfold leaveL; rw [List.range_succ, List.foldl_append, List.foldl_cons, List.foldl_nil]
    rw [e]; unfold leaveStep
    split <;> omega
def pcLr : List AD → (D → Prop) → Prop := fun ads R => ∃ (rows : List (List Int)) (C q : Nat) (st : List Nat), ads = [.dat (rowsD rows), .dat (.int q), .dat (natD st)] ∧ Rect rows C ∧ 0 < rows.length ∧ q < C ∧ (∀ k ∈ st, k < C) ∧ R = (· = .int (leaveL rows q st (rows.length - 1)))
theorem ok_Lr (m : Mg mg) (F : Fun K "leaving_row" "leaving_row" sLr f fd) (hIs : Has P w K mg base k "is_sooner" (spD K pcIs)) : FnOk P w K mg base CX0 (k + 1) f fd ["rows", "column", "start"] (spD K pcLr) := by
  refine fn_mkD F scLr (fun ads R h => by obtain ⟨_, _, _, _, rfl, _⟩ := h; rfl) fun c ads R h hz => ?_
  obtain ⟨rows, C, q, st, rfl, hr, hne, hq, hst, rfl⟩ := h
  have few := hr.few
  refine run_to (rs_set (i := 3) (by walk_at "sto") (ev_neg ev_int)) ?_
  refine run_cons (rs_for (items := intsD 0 (rows.length - 1)) (wk_is (wk_range1 (n := (rows.length : Int) - 1) rfl m.range ((ev_sub (ev_lenL (l := rows.map rowD) rfl m.len (by walk_at "var")) ev_int).is (by simp)) (by omega) (by omega)) (by congr 1; omega)) (tg_name (i := 4) (by walk_at "sto"))
    (fun i ds' => ∃ z, ds' = [.dat (rowsD rows), .dat (.int q), .dat (natD st), .dat (.int (leaveL rows q st i)), z]) ⟨_, rfl⟩ ?_ (fun ds' h => h)) ?_
  · rintro i d ds' hi ⟨z, rfl⟩
    obtain ⟨hi, rfl⟩ := intsD_get hi
    rw [Int.zero_add]
    have hil : i < rows.length := by omega
    have hlv := leaveL_lt rows q st i
    have hstep : leaveL rows q st (i + 1) = leaveStep rows q st (leaveL rows q st i) i := by
      unfold leaveL; rw [List.range_succ, List.foldl_append, List.foldl_cons, List.foldl_nil]
    refine ⟨_, rfl, run_one (rs_if (PT := (· = (decide (0 < (rows.getD i []).getD q 0) && (decide (leaveL rows q st i < 0) || soonerL (rows.getD i []) (rows.getD (leaveL rows q st i).toNat []) q st))))
      (et_of (ew_and (et_gt (ev_ixL (ev_ixL (by walk_at "var") (by walk_at "var") (at_rows hil)) (by walk_at "var") (at_row (by rw [hr.at_len hil]; exact hq))) ev_int) (fun _ => ew_and1 (et_of (ew_or (et_lt (by walk_at "var") ev_int) (fun hf => ew_or1 (et_val ?_))))))) (fun hb => ?_) (fun hb => ?_))⟩
    · have hf0 : ¬ leaveL rows q st i < 0 := by simpa using hf
      have hfl : (leaveL rows q st i).toNat < rows.length := by omega
      have hfe : leaveL rows q st i = ((leaveL rows q st i).toNat : Int) := by omega
      exact ev_callD (PA := (· = [.dat (rowD (rows.getD i [])), .dat (rowD (rows.getD (leaveL rows q st i).toNat [])), .dat (.int q), .dat (natD st)])) (Pc := pcIs) ⟨hIs⟩ rfl
        (ed_dat (ev_ixL (by walk_at "var") (by walk_at "var") (at_rows hil)) (ed_dat (ev_ixL (by walk_at "var") ((ev_var 3 rfl (by walk_at "vis") rfl).is (congrArg PyData.int hfe)) (at_rows hfl)) (ed_dat (by walk_at "var") (ed_dat (by walk_at "var") ed_nil))))
        (fun l hl => ⟨_, ⟨_, _, _, _, hl, by rw [hr.at_len hil, hr.at_len hfl], by rw [hr.at_len hil]; exact hq, fun x hx => by rw [hr.at_len hil]; exact hst x hx, hr.at_sm hil, hr.at_sm hfl, rfl⟩, fun d hd => hd⟩)
    · refine run_one (rs_setP (i := 3) (by walk_at "sto") (ev_var 4 rfl (by walk_at "vis") rfl) (fun d hd => ⟨.dat (.int i), ?_⟩))
      subst hd
      rw [hstep]; unfold leaveStep; rw [if_pos hb.symm]; rfl
    · refine run_nil ⟨.dat (.int i), ?_⟩
      rw [hstep]; unfold leaveStep; rw [if_neg (by rw [← hb]; exact Bool.false_ne_true)]; rfl
  · rintro ds' ⟨z, rfl⟩
    refine run_one (rs_ret (by walk_at "var") ?_)
    rw [intsD_length]
end

end K8

set_option Elab.async false
set_option maxRecDepth 100000
set_option exponentiation.threshold 2000
set_option linter.all false
set_option maxHeartbeats 1000000
namespace K8
open PySem L2 Dl
local macro_rules | `(tactic| walk_at "vis") => `(tactic| first | exact Or.inl rfl | exact Or.inr (Or.inl rfl) | exact Or.inr (Or.inr rfl))
local macro_rules | `(tactic| walk_at "sto") => `(tactic| first | exact ⟨rfl, Or.inl rfl, Or.inl rfl⟩ | exact ⟨rfl, Or.inl rfl, Or.inr rfl⟩ | exact ⟨rfl, Or.inr rfl, Or.inl rfl⟩)
local macro_rules | `(tactic| walk_at "var") => `(tactic| first
  | exact ev_var 0 rfl (by walk_at "vis") rfl | exact ev_var 1 rfl (by walk_at "vis") rfl | exact ev_var 2 rfl (by walk_at "vis") rfl | exact ev_var 3 rfl (by walk_at "vis") rfl
  | exact ev_var 4 rfl (by walk_at "vis") rfl | exact ev_var 5 rfl (by walk_at "vis") rfl | exact ev_var 6 rfl (by walk_at "vis") rfl | exact ev_var 7 rfl (by walk_at "vis") rfl
  | exact ev_var 8 rfl (by walk_at "vis") rfl | exact ev_var 9 rfl (by walk_at "vis") rfl | exact ev_var 10 rfl (by walk_at "vis") rfl | exact ev_var 11 rfl (by walk_at "vis") rfl
  | exact ev_var 12 rfl (by walk_at "vis") rfl | exact ev_var 13 rfl (by walk_at "vis") rfl | exact ev_var 14 rfl (by walk_at "vis") rfl | exact ev_var 15 rfl (by walk_at "vis") rfl)

local macro_rules | `(tactic| walk_at "ev") => `(tactic| first
  | exact ev_int | exact ev_bl | exact ev_str | exact ev_non
  | walk_at "var"
  | (refine ev_neg ?_ <;> walk_at "ev")
  | (refine ev_add ?_ ?_ <;> walk_at "ev")
  | (refine ev_sub ?_ ?_ <;> walk_at "ev"))

local macro_rules | `(tactic| walk_at "blk") => `(tactic| (dsimp only; decide +kernel))
section
variable {P : Program} {w : World} {K : Frag} {mg : Str → Option Value} {base : Heap} {k : Nat} {f : Addr} {fd : FuncData}

theorem map_set_int (l : List Int) (n : Nat) (x : Int) : (l.map PyData.int).set n (.int x) = (l.set n x).map PyData.int := by rw [List.map_set]
theorem ixN_nat {n k : Nat} (h : k < n) : ixN n (k : Int) = some k := by
  unfold ixN; rw [if_pos (by omega), if_pos (by omega)]; simp

/-! weights_of(rows, scale, basis, column, many) -/
abbrev sWo : Stmt := top 21
theorem scWo : FnScope ["rows", "scale", "basis", "column", "many", "weights", "at", "place"] ["rows", "scale", "basis", "column", "many"] (defScope sWo) := ⟨rfl, rfl, rfl, by decide +kernel, rfl, by decide +kernel, by decide +kernel⟩
/-- the weights when i places of the basis are noted -/
def weightsL (rows : List (List Int)) (scale : Int) (basis : List Nat) (q m : Nat) (i : Nat) : List Int :=
  (List.range i).foldl (fun wt at_ => wt.set (basis.getD at_ 0) (-((rows.getD at_ []).getD q 0))) ((List.replicate m 0).set q scale)
theorem weightsL_len (rows : List (List Int)) (scale : Int) (basis : List Nat) (q m : Nat) : ∀ i, (weightsL rows scale basis q m i).length = m
  | 0 => by simp [weightsL]
  | i + 1 => by
    have ih := weightsL_len rows scale basis q m i
    unfold weightsL at *
    rw [List.range_succ, List.foldl_append, List.foldl_cons, List.foldl_nil, List.length_set]; exact ih
def pcWo : List AD → (List D → Prop) → Prop := fun ads R => ∃ (rows : List (List Int)) (C : Nat) (scale : Int) (basis : List Nat) (q m : Nat), ads = [.dat (rowsD rows), .dat (.int scale), .dat (natD basis), .dat (.int q), .dat (.int m)] ∧ Rect rows C ∧ basis.length ≤ rows.length ∧ q < C ∧ q < m ∧ m ≤ 1000 ∧ (∀ b ∈ basis, b < m) ∧
  R = (· = (weightsL rows scale basis q m basis.length).map PyData.int)
theorem flat1 (n : Nat) (x : D) : (List.replicate n [x]).flatten = List.replicate n x := by
  induction n with
  | zero => rfl
  | succ n ih => rw [List.replicate_succ, List.flatten_cons, ih]; rfl
/-- [x] * n -/
theorem ef_rep1 {I : Inf} {c : Ct} {ds : List SD} {a b : Expr} {pos : Pos} {x : D} {n : Nat} (ha : EvE I c a ds (· = .list [x])) (hb : EvE I c b ds (· = .int n)) (hn : n ≤ 10000) : EvF I c (.BinOp a .Mult b pos) ds (· = List.replicate n x) := fun X F σ G H s Q k => by
  refine w_pe (pe_op op_rep pe_w pe_w) ?_
  refine ha X F σ G H s _ fun v1 G1 H1 d1 x1 s1 r1 p1 => hb X F σ G1 H1 s1 _ fun v2 G2 H2 d2 x2 s2 r2 p2 => ?_
  subst p1; subst p2
  obtain ⟨q, xs, rfl, h3, l1, r3⟩ := (r1.mono x2.g).lst'
  rw [r2.int']
  have hlen := r3.length
  refine ⟨q, n, xs, rfl, rfl, s2.ex _ _ h3, by omega, by omega, by rw [hlen]; simp; exact Lm_le (Nat.le_trans hn (by decide)), fun p np => ?_⟩
  have np0 : H p = none := by
    cases e : H p with
    | none => rfl
    | some o => exact absurd np ((x1.trans x2).dom p (by rw [e]; exact fun z => nomatch z))
  have g0 := S.gnone s2 np
  have x12 := x1.trans x2
  refine k p _ G2 (upd H2 p (.lst (List.replicate (n : Int).toNat xs).flatten)) (List.replicate n x) ⟨x12.g, fun a o h z => by rw [upd_ne (ne_of_none (x12.h a o h z) np)]; exact x12.h a o h z, x12.nw, fun q hq z => ?_⟩ (State.aside s2 np) np0 g0 (S.ndeck s2 np) (by simp; exact Nat.le_trans hn (by decide)) upd_same ?_ rfl
  · by_cases e : q = p
    · rw [e, upd_same] at z; cases z
    · rw [upd_ne e] at z; exact x12.dom q hq z
  · have := RpA.rep r3 n
    rw [flat1] at this
    simpa using this
theorem ok_Wo (m : Mg mg) (F : Fun K "weights_of" "weights_of" sWo f fd) : FnOk P w K mg base CX0 (k + 1) f fd ["rows", "scale", "basis", "column", "many"] (spF K pcWo) := by
  refine fn_mkF F scWo (fun ads R h => by obtain ⟨_, _, _, _, _, _, rfl, _⟩ := h; rfl) fun c ads R h hz => ?_
  obtain ⟨rows, C, scale, basis, q, n, rfl, hr, hb, hqC, hqm, hm, hbm, rfl⟩ := h
  refine run_cons (rs_setF (i := 5) (by walk_at "sto") (ef_rep1 (n := n) (ev_lst (ea_cons ev_int ea_nil)) (by walk_at "var") (by omega)) (fun l hl => by subst hl; exact rfl)) ?_
  intro ds' hds; subst hds
  refine run_to (ds1 := [.dat (rowsD rows), .dat (.int scale), .dat (natD basis), .dat (.int q), .dat (.int n), .own ((weightsL rows scale basis q n 0).map PyData.int), .un, .un]) (rs_setO (i := 5) (l := List.replicate n (.int 0)) (n := q) rfl (by walk_at "vis") rfl (by walk_at "var") (by walk_at "var") (ixN_nat (by simpa using hqm)) (fun d hd => by
    subst hd
    show _ = _
    have : (List.replicate n (PyData.int 0)).set q (.int scale) = (weightsL rows scale basis q n 0).map PyData.int := by
      unfold weightsL; rw [List.range_zero, List.foldl_nil, List.map_set, List.map_replicate]
    rw [this]; rfl)) ?_
  refine run_cons (rs_for (items := enumL (basis.map fun b : Nat => PyData.int (b : Int))) (wk_enum rfl m.enumerate (by walk_at "var")) (tg_two (i := 6) (j := 7) (by walk_at "sto") (by walk_at "sto"))
    (fun i ds' => ∃ z1 z2, ds' = [.dat (rowsD rows), .dat (.int scale), .dat (natD basis), .dat (.int q), .dat (.int n), .own ((weightsL rows scale basis q n i).map PyData.int), z1, z2]) ⟨_, _, rfl⟩ ?_ (fun ds' h => h)) ?_
  · rintro i d ds' hi ⟨z1, z2, rfl⟩
    obtain ⟨x, hx, rfl⟩ := enumL_get hi
    obtain ⟨b, hb1, rfl⟩ := get_nat hx
    have hib : i < basis.length := (List.getElem?_eq_some_iff.mp hb1).1
    have hbm' : b < n := hbm b (List.mem_of_getElem? hb1)
    have hbe : basis.getD i 0 = b := by rw [List.getD_eq_getElem?_getD, hb1]; rfl
    have hil : i < rows.length := by omega
    refine ⟨_, ⟨_, _, rfl, rfl⟩, run_one (rs_setO (i := 5) (n := b) rfl (by walk_at "vis") rfl (ev_neg (ev_ixL (ev_ixL (by walk_at "var") (by walk_at "var") (at_rows hil)) (by walk_at "var") (at_row (by rw [hr.at_len hil]; exact hqC)))) (by walk_at "var") (ixN_nat (by rw [List.length_map, weightsL_len]; exact hbm')) (fun d hd => ⟨.dat (.int i), .dat (.int b), ?_⟩))⟩
    subst hd
    have : ((weightsL rows scale basis q n i).map PyData.int).set b (.int (-((rows.getD i []).getD q 0))) = (weightsL rows scale basis q n (i + 1)).map PyData.int := by
      rw [map_set_int]
      unfold weightsL; rw [List.range_succ, List.foldl_append, List.foldl_cons, List.foldl_nil, hbe]
    rw [this]; rfl
  · rintro ds' ⟨z1, z2, rfl⟩
    refine run_one (rs_retO (i := 5) rfl (by walk_at "vis") hz rfl ?_)
    show _ = _
    rw [enumL_length, List.length_map]

/-! pivoted(rows, scale, at, column) -/
abbrev sPv : Stmt := top 15
theorem scPv : FnScope ["rows", "scale", "at", "column", "base", "pivot", "out", "number", "row", "times", "x", "y"] ["rows", "scale", "at", "column"] (defScope sPv) := ⟨rfl, rfl, rfl, by decide +kernel, rfl, by decide +kernel, by decide +kernel⟩
/-- the k-th row behind an exchange -/
def pivRow (rows : List (List Int)) (scale : Int) (p q k : Nat) : List Int :=
  if k = p then rows.getD p [] else
    if (rows.getD k []).getD q 0 = 0 then (rows.getD k []).map (fun x => x * (rows.getD p []).getD q 0 / scale)
    else ((rows.getD k []).zip (rows.getD p [])).map (fun z => (z.1 * (rows.getD p []).getD q 0 - z.2 * (rows.getD k []).getD q 0) / scale)
def pivL (rows : List (List Int)) (scale : Int) (p q n : Nat) : List (List Int) := (List.range n).map (pivRow rows scale p q)
def pcPv : List AD → (List D → Prop) → Prop := fun ads R => ∃ (rows : List (List Int)) (C : Nat) (scale : Int) (p q : Nat), ads = [.dat (rowsD rows), .dat (.int scale), .dat (.int p), .dat (.int q)] ∧ Rect rows C ∧ p < rows.length ∧ q < C ∧ 0 < scale ∧ Sm scale ∧ R = (· = (pivL rows scale p q rows.length).map rowD)
def pairF (g : Int → Int → Int) : D → D
  | .tuple [.int a, .int b] => .int (g a b)
  | d => d
theorem zip_ints (l r : List Int) : zipL (l.map PyData.int) (r.map PyData.int) = (l.zip r).map (fun z => PyData.tuple [.int z.1, .int z.2]) := by
  unfold zipL; rw [List.zip_map, List.map_map]; rfl
theorem ok_Pv (m : Mg mg) (F : Fun K "pivoted" "pivoted" sPv f fd) : FnOk P w K mg base CX0 (k + 1) f fd ["rows", "scale", "at", "column"] (spF K pcPv) := by
  refine fn_mkF F scPv (fun ads R h => by obtain ⟨_, _, _, _, _, rfl, _⟩ := h; rfl) fun c ads R h hz => ?_
  obtain ⟨rows, C, scale, p, q, rfl, hr, hp, hq, h0, hs, rfl⟩ := h
  have most := hr.most
  have few := hr.few
  have hplen := hr.at_len hp
  refine run_to (rs_set (i := 4) (d := rowD (rows.getD p [])) (by walk_at "sto") (ev_ixL (by walk_at "var") (by walk_at "var") (at_rows hp))) ?_
  refine run_to (rs_set (i := 5) (d := .int ((rows.getD p []).getD q 0)) (by walk_at "sto") (ev_ixL (l := (rows.getD p []).map PyData.int) (by walk_at "var") (by walk_at "var") (at_row (by rw [hplen]; exact hq)))) ?_
  refine run_cons (rs_setF (i := 6) (by walk_at "sto") (ef_lst ea_nil (fun l hl => by subst hl; exact Nat.zero_le _)) (fun l hl => by subst hl; exact rfl)) ?_
  intro ds' hds; subst hds
  refine run_cons (rs_for (items := enumL (rows.map rowD)) (wk_enum rfl m.enumerate (by walk_at "var")) (tg_two (i := 7) (j := 8) (by walk_at "sto") (by walk_at "sto"))
    (fun i ds' => ∃ z1 z2 z3, ds' = [.dat (rowsD rows), .dat (.int scale), .dat (.int p), .dat (.int q), .dat (rowD (rows.getD p [])), .dat (.int ((rows.getD p []).getD q 0)), .own ((pivL rows scale p q i).map rowD), z1, z2, z3, .un, .un]) ⟨_, _, _, rfl⟩ ?_ (fun ds' h => h)) ?_
  · rintro i d ds' hi ⟨z1, z2, z3, rfl⟩
    obtain ⟨x, hx, rfl⟩ := enumL_get hi
    obtain ⟨r, hr1, rfl⟩ := get_row hx
    have hil : i < rows.length := (List.getElem?_eq_some_iff.mp hr1).1
    have hre : rows.getD i [] = r := by rw [List.getD_eq_getElem?_getD, hr1]; rfl
    have hrl : r.length = C := by rw [← hre]; exact hr.at_len hil
    have hrs : SmRow r := by rw [← hre]; exact hr.at_sm hil
    have hps : SmRow (rows.getD p []) := hr.at_sm hp
    have hlm : (pivL rows scale p q i).length < Lm := by unfold pivL; simp; exact Nat.lt_of_lt_of_le hil (Nat.le_trans few (by decide))
    have hnext : ((pivL rows scale p q i).map rowD) ++ [rowD (pivRow rows scale p q i)] = (pivL rows scale p q (i + 1)).map rowD := by
      unfold pivL; rw [List.range_succ, List.map_append, List.map_append]; rfl
    have smd : ∀ a b : Int, Sm a → Sm b → CDivW (a * b) scale := fun a b ha hb => wide_div h0 hs (by decide) (by decide)
    refine ⟨_, ⟨_, _, rfl, rfl⟩, run_to (rs_set (i := 9) (d := .int (r.getD q 0)) (by walk_at "sto") (ev_ixL (l := r.map PyData.int) (by walk_at "var") (by walk_at "var") (at_row (by rw [hrl]; exact hq)))) ?_⟩
    refine run_one (rs_if (et_eqI (by walk_at "var") (by walk_at "var")) (fun hb => ?_) (fun hb => ?_))
    · have e : i = p := by have : (i : Int) = p := by simpa using hb.symm
                           omega
      refine run_one (rs_append (i := 6) rfl (by walk_at "vis") rfl (by simpa using hlm) (by walk_at "var") (fun d hd => ⟨.dat (.int i), .dat (rowD r), .dat (.int (r.getD q 0)), ?_⟩))
      subst hd
      have : pivRow rows scale p q i = rows.getD p [] := by unfold pivRow; rw [if_pos e]
      rw [← this, hnext]; rfl
    · have hne : ¬ i = p := by
        intro e; subst e; simp at hb
      refine run_one (rs_if (et_eqI (by walk_at "var") ev_int) (fun hb => ?_) (fun hb => ?_))
      · have e0 : r.getD q 0 = 0 := by simpa using hb.symm
        refine run_one (rs_append (i := 6) rfl (by walk_at "vis") rfl (by simpa using hlm) (ev_lc (ef_map [("x", 10)] (items := r.map PyData.int) (intF (fun x => x * (rows.getD p []).getD q 0 / scale)) (by walk_at "blk") (wk_list (by walk_at "var")) (tg_name (i := 10) (by walk_at "sto")) (by simp; rw [hrl]; exact Nat.le_trans most (by decide)) ?_)) (fun d hd => ⟨.dat (.int i), .dat (rowD r), .dat (.int (r.getD q 0)), ?_⟩))
        · intro d hd
          obtain ⟨x, hx, rfl⟩ := mem_int hd
          exact ⟨_, rfl, by simp, ev_div (i := x * (rows.getD p []).getD q 0) (j := scale) (ev_mul (by walk_at "var") (by walk_at "var") ((hrs x hx).mul (hps.at q))) (by walk_at "var") (wide_div h0 hs (by decide) (by decide))⟩
        · subst hd
          rw [map_intF]
          have : pivRow rows scale p q i = r.map (fun x => x * (rows.getD p []).getD q 0 / scale) := by unfold pivRow; rw [if_neg hne, hre, if_pos e0]
          have h2 : (PyData.list ((r.map (fun x => x * (rows.getD p []).getD q 0 / scale)).map PyData.int)) = rowD (pivRow rows scale p q i) := by rw [this]; rfl
          rw [h2, hnext]; rfl
      · have e0 : ¬ r.getD q 0 = 0 := by simpa using hb.symm
        refine run_one (rs_append (i := 6) rfl (by walk_at "vis") rfl (by simpa using hlm) (ev_lc (ef_map [("x", 10), ("y", 11)] (items := zipL (r.map PyData.int) ((rows.getD p []).map PyData.int)) (pairF (fun x y => (x * (rows.getD p []).getD q 0 - y * r.getD q 0) / scale)) (by walk_at "blk") (wk_zip (x := rowD r) (y := rowD (rows.getD p [])) rfl m.zip (by walk_at "var") (by walk_at "var") (.inl ⟨rfl, rfl⟩)) (tg_two (i := 10) (j := 11) (by walk_at "sto") (by walk_at "sto")) (by rw [zip_ints]; simp; rw [hrl]; exact Nat.le_trans (Nat.min_le_left _ _) (Nat.le_trans most (by decide))) ?_)) (fun d hd => ⟨.dat (.int i), .dat (rowD r), .dat (.int (r.getD q 0)), ?_⟩))
        · intro d hd
          rw [zip_ints] at hd
          obtain ⟨⟨x, y⟩, hxy, rfl⟩ := List.mem_map.mp hd
          have hm := List.of_mem_zip hxy
          exact ⟨_, ⟨_, _, rfl, rfl⟩, by simp, ev_div (i := x * (rows.getD p []).getD q 0 - y * r.getD q 0) (j := scale) (ev_sub (ev_mul (by walk_at "var") (by walk_at "var") ((hrs x hm.1).mul (hps.at q))) (ev_mul (by walk_at "var") (by walk_at "var") ((hps y hm.2).mul (hrs.at q)))) (by walk_at "var") (wide_div h0 hs (by decide) (by decide))⟩
        · subst hd
          have : pivRow rows scale p q i = (r.zip (rows.getD p [])).map (fun z => (z.1 * (rows.getD p []).getD q 0 - z.2 * r.getD q 0) / scale) := by unfold pivRow; rw [if_neg hne, hre, if_neg e0]
          have h2 : (PyData.list ((zipL (r.map PyData.int) ((rows.getD p []).map PyData.int)).map (pairF (fun x y => (x * (rows.getD p []).getD q 0 - y * r.getD q 0) / scale)))) = rowD (pivRow rows scale p q i) := by
            rw [this, zip_ints, List.map_map]; unfold rowD; rw [List.map_map]; rfl
          rw [h2, hnext]; rfl
  · rintro ds' ⟨z1, z2, z3, rfl⟩
    refine run_one (rs_retO (i := 6) rfl (by walk_at "vis") hz rfl ?_)
    show _ = _
    rw [enumL_length, List.length_map]
end

end K8

set_option Elab.async false
set_option maxRecDepth 100000
set_option exponentiation.threshold 2000
set_option linter.all false
set_option maxHeartbeats 1000000
namespace K8
open PySem L2 Dl
local macro_rules | `(tactic| walk_at "vis") => `(tactic| first | exact Or.inl rfl | exact Or.inr (Or.inl rfl) | exact Or.inr (Or.inr rfl))
local macro_rules | `(tactic| walk_at "sto") => `(tactic| first | exact ⟨rfl, Or.inl rfl, Or.inl rfl⟩ | exact ⟨rfl, Or.inl rfl, Or.inr rfl⟩ | exact ⟨rfl, Or.inr rfl, Or.inl rfl⟩)
local macro_rules | `(tactic| walk_at "var") => `(tactic| first
  | exact ev_var 0 rfl (by walk_at "vis") rfl | exact ev_var 1 rfl (by walk_at "vis") rfl | exact ev_var 2 rfl (by walk_at "vis") rfl | exact ev_var 3 rfl (by walk_at "vis") rfl
  | exact ev_var 4 rfl (by walk_at "vis") rfl | exact ev_var 5 rfl (by walk_at "vis") rfl | exact ev_var 6 rfl (by walk_at "vis") rfl | exact ev_var 7 rfl (by walk_at "vis") rfl
  | exact ev_var 8 rfl (by walk_at "vis") rfl | exact ev_var 9 rfl (by walk_at "vis") rfl | exact ev_var 10 rfl (by walk_at "vis") rfl | exact ev_var 11 rfl (by walk_at "vis") rfl
  | exact ev_var 12 rfl (by walk_at "vis") rfl | exact ev_var 13 rfl (by walk_at "vis") rfl | exact ev_var 14 rfl (by walk_at "vis") rfl | exact ev_var 15 rfl (by walk_at "vis") rfl)

local macro_rules | `(tactic| walk_at "ev") => `(tactic| first
  | exact ev_int | exact ev_bl | exact ev_str | exact ev_non
  | walk_at "var"
  | (refine ev_neg ?_ <;> walk_at "ev")
  | (refine ev_add ?_ ?_ <;> walk_at "ev")
  | (refine ev_sub ?_ ?_ <;> walk_at "ev"))

local macro_rules | `(tactic| walk_at "blk") => `(tactic| (dsimp only; decide +kernel))
def wallD (w : List Int) : D := .tuple (w.map PyData.int)
def wallsD (ws : List (List Int)) : D := .tuple (ws.map wallD)
theorem at_wall {r : List Int} {k : Nat} (h : k < r.length) : atI (r.map PyData.int) (k : Int) = some (.int (r.getD k 0)) := at_row h
theorem mem_wall {ws : List (List Int)} {d : D} (h : d ∈ ws.map wallD) : ∃ w ∈ ws, d = wallD w := by
  obtain ⟨w, hw, rfl⟩ := List.mem_map.mp h; exact ⟨w, hw, rfl⟩
section
variable {P : Program} {w : World} {K : Frag} {mg : Str → Option Value} {base : Heap} {k : Nat} {f : Addr} {fd : FuncData}

/-! first_rows(width, weak, strict) -/
abbrev sFr : Stmt := top 14
theorem scFr : FnScope ["width", "weak", "strict", "given", "rows", "k", "row", "at"] ["width", "weak", "strict"] (defScope sFr) := ⟨rfl, rfl, rfl, by decide +kernel, rfl, by decide +kernel, by decide +kernel⟩
def firstR (n : Nat) (given : List (List Int)) (k : Nat) : List Int := given.map (fun r => r.getD k 0) ++ (List.range n).map (fun at_ => if k = at_ then 1 else 0)
def goalR (n : Nat) (weak strict : List (List Int)) : List Int := List.replicate weak.length 0 ++ List.replicate strict.length 1 ++ List.replicate n 0
def firstRows (n : Nat) (weak strict : List (List Int)) (i : Nat) : List (List Int) := (List.range i).map (firstR n (weak ++ strict))
def pcFr : List AD → (List D → Prop) → Prop := fun ads R => ∃ (n : Nat) (weak strict : List (List Int)), ads = [.dat (.int n), .dat (wallsD weak), .dat (wallsD strict)] ∧ n ≤ 8 ∧ weak.length ≤ 100 ∧ strict.length ≤ 100 ∧ (∀ r ∈ weak ++ strict, r.length = n) ∧
  R = (· = (firstRows n weak strict n ++ [goalR n weak strict]).map rowD)
def itemF (k : Nat) : D → D
  | .tuple l => l.getD k .none
  | d => d
def unitF (k : Nat) : D → D
  | .int j => .int (if (k : Int) = j then 1 else 0)
  | d => d
theorem ok_Fr (m : Mg mg) (F : Fun K "first_rows" "first_rows" sFr f fd) : FnOk P w K mg base CX0 (k + 1) f fd ["width", "weak", "strict"] (spF K pcFr) := by
  refine fn_mkF F scFr (fun ads R h => by obtain ⟨_, _, _, rfl, _⟩ := h; rfl) fun c ads R h hz => ?_
  obtain ⟨n, weak, strict, rfl, hn, hw, hs, hlen, rfl⟩ := h
  refine run_to (ds1 := [.dat (.int n), .dat (wallsD weak), .dat (wallsD strict), .dat (.list ((weak ++ strict).map wallD)), .un, .un, .un, .un]) (rs_setP (i := 3) (P := (· = .list ((weak ++ strict).map wallD))) (by walk_at "sto")
    ((ev_catL (l := weak.map wallD) (m := strict.map wallD) (ev_listT rfl m.list (by walk_at "var")) (ev_listT rfl m.list (by walk_at "var")) (by simp; exact Nat.le_trans (Nat.add_le_add hw hs) (by decide))).is (by rw [List.map_append])) (fun d hd => by subst hd; rfl)) ?_
  refine run_cons (rs_setF (i := 4) (by walk_at "sto") (ef_lst ea_nil (fun l hl => by subst hl; exact Nat.zero_le _)) (fun l hl => by subst hl; exact rfl)) ?_
  intro ds' hds; subst hds
  refine run_cons (rs_for (items := intsD 0 n) (wk_range1 (n := (n : Int)) rfl m.range (by walk_at "var") (by omega) (by omega)) (tg_name (i := 5) (by walk_at "sto"))
    (fun i ds' => ∃ z, ds' = [.dat (.int n), .dat (wallsD weak), .dat (wallsD strict), .dat (.list ((weak ++ strict).map wallD)), .own ((firstRows n weak strict i).map rowD), z, .un, .un]) ⟨_, rfl⟩ ?_ (fun ds' h => h)) ?_
  · rintro i d ds' hi ⟨z, rfl⟩
    obtain ⟨hi, rfl⟩ := intsD_get hi
    rw [Int.zero_add]
    have hlm : (firstRows n weak strict i).length < Lm := by unfold firstRows; simp; exact Nat.lt_of_lt_of_le ‹i < n› (Nat.le_trans hn (by decide))
    have e1 : ((weak ++ strict).map wallD).map (itemF i) = ((weak ++ strict).map (fun r => r.getD i 0)).map PyData.int := by
      rw [List.map_map, List.map_map]
      refine List.map_congr_left fun r hr => ?_
      have hl := hlen r hr
      show (r.map PyData.int).getD i .none = .int (r.getD i 0)
      rw [List.getD_eq_getElem?_getD, List.getD_eq_getElem?_getD, List.getElem?_map, List.getElem?_eq_getElem (by omega)]; rfl
    have e2 : (intsD 0 n).map (unitF i) = ((List.range n).map (fun at_ => if i = at_ then (1 : Int) else 0)).map PyData.int := by
      unfold intsD
      rw [List.map_map, List.map_map]
      refine List.map_congr_left fun j hj => ?_
      show PyData.int (if (i : Int) = 0 + (j : Int) then 1 else 0) = PyData.int (if i = j then 1 else 0)
      congr 1
      by_cases e : i = j
      · subst e; simp
      · rw [if_neg e, if_neg (by omega)]
    have hnext : ((firstRows n weak strict i).map rowD) ++ [rowD (firstR n (weak ++ strict) i)] = (firstRows n weak strict (i + 1)).map rowD := by
      unfold firstRows; rw [List.range_succ, List.map_append, List.map_append]; rfl
    refine ⟨_, rfl, run_one (rs_append (i := 4) rfl (by walk_at "vis") rfl (by simpa using hlm) ((ev_catL (l := ((weak ++ strict).map (fun r => r.getD i 0)).map PyData.int) (m := ((List.range n).map (fun at_ => if i = at_ then (1 : Int) else 0)).map PyData.int)
      ((ev_lc (ef_map [("row", 6)] (items := (weak ++ strict).map wallD) (itemF i) (by walk_at "blk") (wk_list (by walk_at "var")) (tg_name (i := 6) (by walk_at "sto")) (by simp; exact Nat.le_trans (Nat.add_le_add hw hs) (by decide)) ?_)).is (by rw [e1]))
      ((ev_lc (ef_map [("at", 7)] (items := intsD 0 n) (unitF i) (by walk_at "blk") (wk_range1 (n := (n : Int)) rfl m.range (by walk_at "var") (by omega) (by omega)) (tg_name (i := 7) (by walk_at "sto")) (by rw [intsD_length]; exact Nat.le_trans hn (by decide)) ?_)).is (by rw [e2])) (by simp; exact Nat.le_trans (Nat.add_le_add (Nat.add_le_add hw hs) hn) (by decide))).is (by rw [← List.map_append])) (fun d hd => ⟨.dat (.int i), ?_⟩))⟩
    · intro d hd
      obtain ⟨r, hr, rfl⟩ := mem_wall hd
      have hl := hlen r hr
      refine ⟨_, rfl, by simp, (ev_ixT (l := r.map PyData.int) (by walk_at "var") (by walk_at "var") (at_row (by omega))).is ?_⟩
      show PyData.int (r.getD i 0) = (r.map PyData.int).getD i .none
      rw [List.getD_eq_getElem?_getD, List.getD_eq_getElem?_getD, List.getElem?_map, List.getElem?_eq_getElem (by omega)]; rfl
    · intro d hd
      obtain ⟨j, hj⟩ := List.getElem?_of_mem hd
      obtain ⟨hjn, rfl⟩ := intsD_get hj
      refine ⟨_, rfl, by simp, (ev_intB (b := decide ((i : Int) = 0 + (j : Int))) rfl m.int (ev_eqI (by walk_at "var") (by walk_at "var"))).is ?_⟩
      show PyData.int _ = PyData.int (if (i : Int) = 0 + (j : Int) then 1 else 0)
      congr 1
      by_cases e : (i : Int) = 0 + (j : Int)
      · simp [e]
      · simp [e]
    · subst hd
      show _ = _
      have : (PyData.list (((weak ++ strict).map (fun r => r.getD i 0) ++ (List.range n).map (fun at_ => if i = at_ then (1 : Int) else 0)).map PyData.int)) = rowD (firstR n (weak ++ strict) i) := rfl
      rw [this, hnext]; rfl
  · rintro ds' ⟨z, rfl⟩
    rw [intsD_length]
    have hlm : (firstRows n weak strict n).length < Lm := by unfold firstRows; simp; exact Nat.lt_of_le_of_lt hn (by decide)
    have efl : ∀ (a : Int) (x : Nat), (List.replicate (a := PyData.int a) x) = (List.replicate x a).map PyData.int := fun a x => by rw [List.map_replicate]
    refine run_to (rs_append (P := (· = rowD (goalR n weak strict))) (i := 4) rfl (by walk_at "vis") rfl (by simpa using hlm)
      ((ev_catL (l := (List.replicate weak.length (0 : Int) ++ List.replicate strict.length (1 : Int)).map PyData.int) (m := (List.replicate n (0 : Int)).map PyData.int)
        ((ev_catL (l := (List.replicate weak.length (0 : Int)).map PyData.int) (m := (List.replicate strict.length (1 : Int)).map PyData.int)
          ((ev_lc (ef_rep1 (n := weak.length) (ev_lst (ea_cons ev_int ea_nil)) ((ev_lenT rfl m.len (by walk_at "var")).is (by simp)) (by omega))).is (by rw [efl]))
          ((ev_lc (ef_rep1 (n := strict.length) (ev_lst (ea_cons ev_int ea_nil)) ((ev_lenT rfl m.len (by walk_at "var")).is (by simp)) (by omega))).is (by rw [efl])) (by simp; exact Nat.le_trans (Nat.add_le_add hw hs) (by decide))).is (by rw [← List.map_append]))
        ((ev_lc (ef_rep1 (n := n) (ev_lst (ea_cons ev_int ea_nil)) (by walk_at "var") (by omega))).is (by rw [efl])) (by simp; exact Nat.le_trans (Nat.add_le_add (Nat.add_le_add hw hs) hn) (by decide))).is (by rw [← List.map_append]; rfl)) (fun d hd => by subst hd; exact rfl)) ?_
    refine run_one (rs_retO (i := 4) rfl (by walk_at "vis") hz rfl ?_)
    show _ = _
    rw [List.map_append]; rfl
end

end K8

set_option Elab.async false
set_option maxRecDepth 100000
set_option exponentiation.threshold 2000
set_option linter.all false
set_option maxHeartbeats 1000000
namespace K8
open PySem L2 Dl
local macro_rules | `(tactic| walk_at "vis") => `(tactic| first | exact Or.inl rfl | exact Or.inr (Or.inl rfl) | exact Or.inr (Or.inr rfl))
local macro_rules | `(tactic| walk_at "sto") => `(tactic| first | exact ⟨rfl, Or.inl rfl, Or.inl rfl⟩ | exact ⟨rfl, Or.inl rfl, Or.inr rfl⟩ | exact ⟨rfl, Or.inr rfl, Or.inl rfl⟩)
local macro_rules | `(tactic| walk_at "var") => `(tactic| first
  | exact ev_var 0 rfl (by walk_at "vis") rfl | exact ev_var 1 rfl (by walk_at "vis") rfl | exact ev_var 2 rfl (by walk_at "vis") rfl | exact ev_var 3 rfl (by walk_at "vis") rfl
  | exact ev_var 4 rfl (by walk_at "vis") rfl | exact ev_var 5 rfl (by walk_at "vis") rfl | exact ev_var 6 rfl (by walk_at "vis") rfl | exact ev_var 7 rfl (by walk_at "vis") rfl
  | exact ev_var 8 rfl (by walk_at "vis") rfl | exact ev_var 9 rfl (by walk_at "vis") rfl | exact ev_var 10 rfl (by walk_at "vis") rfl | exact ev_var 11 rfl (by walk_at "vis") rfl
  | exact ev_var 12 rfl (by walk_at "vis") rfl | exact ev_var 13 rfl (by walk_at "vis") rfl | exact ev_var 14 rfl (by walk_at "vis") rfl | exact ev_var 15 rfl (by walk_at "vis") rfl)

local macro_rules | `(tactic| walk_at "ev") => `(tactic| first
  | exact ev_int | exact ev_bl | exact ev_str | exact ev_non
  | walk_at "var"
  | (refine ev_neg ?_ <;> walk_at "ev")
  | (refine ev_add ?_ ?_ <;> walk_at "ev")
  | (refine ev_sub ?_ ?_ <;> walk_at "ev"))

local macro_rules | `(tactic| walk_at "blk") => `(tactic| (dsimp only; decide +kernel))
section
variable {P : Program} {w : World} {K : Frag} {mg : Str → Option Value} {base : Heap} {k : Nat} {f : Addr} {fd : FuncData}

/-! settled_rows(rows, width, many) -/
abbrev sSe : Stmt := top 16
theorem scSe : FnScope ["rows", "width", "many", "scale", "basis", "at", "column", "kept", "x"] ["rows", "width", "many"] (defScope sSe) := ⟨rfl, rfl, rfl, by decide +kernel, rfl, by decide +kernel, by decide +kernel⟩
structure SSt where
  rows : List (List Int)
  scale : Int
  basis : List Int
/-- the row turned round if need be -/
def turned (rows : List (List Int)) (at_ q : Nat) : List (List Int) := if (rows.getD at_ []).getD q 0 < 0 then rows.set at_ ((rows.getD at_ []).map (- ·)) else rows
def settleStep (m : Nat) (s : SSt) (at_ : Nat) : SSt :=
  if 0 ≤ firstNZ (s.rows.getD at_ []) 0 m then
    ⟨pivL (turned s.rows at_ (firstNZ (s.rows.getD at_ []) 0 m).toNat) s.scale at_ (firstNZ (s.rows.getD at_ []) 0 m).toNat s.rows.length,
      ((turned s.rows at_ (firstNZ (s.rows.getD at_ []) 0 m).toNat).getD at_ []).getD (firstNZ (s.rows.getD at_ []) 0 m).toNat 0, s.basis ++ [firstNZ (s.rows.getD at_ []) 0 m]⟩
  else ⟨s.rows, s.scale, s.basis ++ [firstNZ (s.rows.getD at_ []) 0 m]⟩
def settleTo (m : Nat) (rows : List (List Int)) (i : Nat) : SSt := (List.range i).foldl (settleStep m) ⟨rows, 1, []⟩
theorem settleTo_succ (m : Nat) (rows : List (List Int)) (i : Nat) : settleTo m rows (i + 1) = settleStep m (settleTo m rows i) i := by
  unfold settleTo; rw [List.range_succ, List.foldl_append, List.foldl_cons, List.foldl_nil]
theorem firstNZ_lt (row : List Int) : ∀ (n k : Nat), -1 ≤ firstNZ row k n ∧ firstNZ row k n < k + n
  | 0, k => by simp [firstNZ]; omega
  | n + 1, k => by
    have := firstNZ_lt row n (k + 1)
    simp only [firstNZ]; split <;> omega
theorem turned_len (rows : List (List Int)) (at_ q : Nat) : (turned rows at_ q).length = rows.length := by unfold turned; split <;> simp
theorem Rect.turned {rows : List (List Int)} {C : Nat} (h : Rect rows C) (at_ q : Nat) : Rect (K8.turned rows at_ q) C := by
  unfold K8.turned
  split
  · by_cases hl : at_ < rows.length
    · have hsm := h.at_sm hl
      have hln := h.at_len hl
      refine ⟨fun r hr => ?_, fun r hr => ?_, h.most, by simp; exact h.few⟩
      · rcases List.mem_or_eq_of_mem_set hr with h1 | h1
        · exact h.len r h1
        · rw [h1]; simpa using hln
      · rcases List.mem_or_eq_of_mem_set hr with h1 | h1
        · exact h.sm r h1
        · rw [h1]; intro x hx
          obtain ⟨y, hy, rfl⟩ := List.mem_map.mp hx
          have := hsm y hy
          unfold Sm at *; rw [Int.natAbs_neg]; exact this
    · rw [List.set_eq_of_length_le (by omega)]; exact h
  · exact h
/-- what the machine wants of the state ahead of a step -/
structure SOk (s : SSt) (n C : Nat) : Prop where
  rect : Rect s.rows C
  len : s.rows.length = n + 1
  pos : 0 < s.scale
  sm : Sm s.scale
def keptL (basis : List Int) (n : Nat) : List Nat := (List.range n).filter fun at_ => decide (0 ≤ basis.getD at_ 0)
def pcSe : List D → List AD → (D → D → List D → Prop) → Prop := fun l ads R => ∃ (rows : List (List Int)) (n m C : Nat), l = rows.map rowD ∧ ads = [.dat (.int n), .dat (.int m)] ∧ n ≤ 8 ∧ m ≤ C ∧ (∀ i, i ≤ n → SOk (settleTo m rows i) n C) ∧
  R = fun a b t => a = rowsD ((keptL (settleTo m rows n).basis n).map (fun i => (settleTo m rows n).rows.getD i []) ++ [(settleTo m rows n).rows.getD n []]) ∧ b = .int (settleTo m rows n).scale ∧ t = ((keptL (settleTo m rows n).basis n).map (fun i => (settleTo m rows n).basis.getD i 0)).map PyData.int
theorem settle_basis_len (m : Nat) (rows : List (List Int)) : ∀ i, (settleTo m rows i).basis.length = i
  | 0 => rfl
  | i + 1 => by
    rw [settleTo_succ]
    have := settle_basis_len m rows i
    unfold settleStep
    split <;> simp [this]
def getF (rows : List D) : D → D
  | .int j => rows.getD j.toNat .none
  | d => d
theorem at_rowsI {rs : List (List Int)} {j : Int} (h0 : 0 ≤ j) (h : j < rs.length) : atI (rs.map rowD) j = some (rowD (rs.getD j.toNat [])) := by
  have := at_rows (rs := rs) (k := j.toNat) (by omega)
  rwa [Int.toNat_of_nonneg h0] at this
theorem at_rowI {r : List Int} {j : Int} (h0 : 0 ≤ j) (h : j < r.length) : atI (r.map PyData.int) j = some (.int (r.getD j.toNat 0)) := by
  have := at_row (r := r) (k := j.toNat) (by omega)
  rwa [Int.toNat_of_nonneg h0] at this
theorem ok_Se (m : Mg mg) (F : Fun K "settled_rows" "settled_rows" sSe f fd) (hFc : Has P w K mg base k "first_column" (spD K pcFc)) (hPv : Has P w K mg base k "pivoted" (spF K pcPv)) : FnOk P w K mg base CX0 (k + 1) f fd ["rows", "width", "many"] (spG K pcSe) := by
  refine fn_mkG F scSe (fun l ads R h => by obtain ⟨_, _, _, _, _, rfl, _⟩ := h; rfl) fun c l ads R h => ?_
  obtain ⟨rows, n, mm, C, rfl, rfl, hn, hmC, hok, rfl⟩ := h
  refine run_to (rs_set (i := 3) (by walk_at "sto") ev_int) ?_
  refine run_cons (rs_setF (i := 4) (by walk_at "sto") (ef_lst ea_nil (fun l hl => by subst hl; exact Nat.zero_le _)) (fun l hl => by subst hl; exact rfl)) ?_
  intro ds' hds; subst hds
  refine run_cons (rs_for (items := intsD 0 n) (wk_range1 (n := (n : Int)) rfl m.range (by walk_at "var") (by omega) (by omega)) (tg_name (i := 5) (by walk_at "sto"))
    (fun i ds' => ∃ z1 z2, ds' = [.own ((settleTo mm rows i).rows.map rowD), .dat (.int n), .dat (.int mm), .dat (.int (settleTo mm rows i).scale), .own ((settleTo mm rows i).basis.map PyData.int), z1, z2, .un, .un]) ⟨_, _, rfl⟩ ?_ (fun ds' h => h)) ?_
  · rintro i d ds' hi ⟨z1, z2, rfl⟩
    obtain ⟨hi, rfl⟩ := intsD_get hi
    rw [Int.zero_add]
    have hin : i < n := ‹i < n›
    have ok := hok i (by omega)
    have okn := hok (i + 1) (by omega)
    have hnext := settleTo_succ mm rows i
    have hbl := settle_basis_len mm rows i
    generalize settleTo mm rows i = st at *
    generalize hst' : settleTo mm rows (i + 1) = st' at *
    have hil : i < st.rows.length := by rw [ok.len]; omega
    have hrl := ok.rect.at_len hil
    have hfc := firstNZ_lt (st.rows.getD i []) mm 0
    generalize hcol : firstNZ (st.rows.getD i []) 0 mm = col at *
    have hlm : st.basis.length < Lm := by rw [hbl]; exact Nat.lt_of_lt_of_le hin (Nat.le_trans hn (by decide))
    refine ⟨_, rfl, run_to (rs_setP (P := (· = .int col)) (i := 6) (by walk_at "sto") (ev_callD (PA := (· = [.dat (rowD (st.rows.getD i [])), .dat (.int mm)])) (Pc := pcFc) ⟨hFc⟩ rfl (ed_dat (ev_ixO (i := 0) rfl (by walk_at "vis") rfl (by walk_at "var") (at_rows hil)) (ed_dat (by walk_at "var") ed_nil))
      (fun l hl => ⟨_, ⟨_, _, hl, by rw [hrl]; exact hmC, by rw [hrl]; exact ok.rect.most, rfl⟩, fun d hd => by rw [hd, hcol]⟩)) (fun d hd => by subst hd; exact rfl)) ?_⟩
    refine run_to (rs_append (P := (· = .int col)) (i := 4) rfl (by walk_at "vis") rfl (by simpa using hlm) (by walk_at "var") (fun d hd => by subst hd; exact rfl)) ?_
    refine run_one (rs_if (et_ge (by walk_at "var") ev_int) (fun hb => ?_) (fun hb => ?_))
    · have h0 : 0 ≤ col := by simpa using hb.symm
      have hst : st' = ⟨pivL (turned st.rows i col.toNat) st.scale i col.toNat st.rows.length, ((turned st.rows i col.toNat).getD i []).getD col.toNat 0, st.basis ++ [col]⟩ := by
        rw [hnext]; unfold settleStep; rw [hcol, if_pos h0]
      have hcC : col.toNat < C := by omega
      have hce : col = (col.toNat : Int) := by omega
      -- the row is turned round if need be
      refine run_to (ds1 := [.own ((turned st.rows i col.toNat).map rowD), .dat (.int n), .dat (.int mm), .dat (.int st.scale), .own (st.basis.map PyData.int ++ [.int col]), .dat (.int i), .dat (.int col), .un, .un])
        (rs_if (et_lt (ev_ixL (ev_ixO (i := 0) (l := st.rows.map rowD) rfl (by walk_at "vis") rfl (by walk_at "var") (at_rows hil)) (by walk_at "var") (at_rowI h0 (by rw [hrl]; omega))) ev_int) (fun hb => ?_) (fun hb => ?_)) ?_
      · have hneg : (st.rows.getD i []).getD col.toNat 0 < 0 := by simpa using hb.symm
        refine run_one (rs_setO (i := 0) (n := i) rfl (by walk_at "vis") rfl (ev_lc (ef_map [("x", 8)] (items := (st.rows.getD i []).map PyData.int) (intF (- ·)) (by walk_at "blk") (wk_list (ev_ixO (i := 0) (l := st.rows.map rowD) rfl (by walk_at "vis") rfl (by walk_at "var") (at_rows hil))) (tg_name (i := 8) (by walk_at "sto")) (by rw [List.length_map, hrl]; exact Nat.le_trans ok.rect.most (by decide)) ?_)) (by walk_at "var") (ixN_nat (by simpa using hil)) (fun d hd => ?_))
        · intro d hd
          obtain ⟨x, hx, rfl⟩ := mem_int hd
          exact ⟨_, rfl, by simp, ev_neg (i := x) (by walk_at "var")⟩
        · subst hd
          rw [map_intF]
          show _ = _
          have : (st.rows.map rowD).set i (.list (((st.rows.getD i []).map (- ·)).map PyData.int)) = (turned st.rows i col.toNat).map rowD := by
            unfold turned; rw [if_pos hneg, List.map_set]; rfl
          rw [this]; rfl
      · have hneg : ¬ (st.rows.getD i []).getD col.toNat 0 < 0 := by simpa using hb.symm
        refine run_nil ?_
        have : turned st.rows i col.toNat = st.rows := by unfold turned; rw [if_neg hneg]
        rw [this]; rfl
      -- the exchange
      have rect' := ok.rect.turned i col.toNat
      have hil' : i < (turned st.rows i col.toNat).length := by rw [turned_len]; exact hil
      have hrl' := rect'.at_len hil'
      refine run_one (rs_freeze (i := 0) rfl (rs_tup2F (i := 0) (j := 3) (PL := (· = (pivL (turned st.rows i col.toNat) st.scale i col.toNat (turned st.rows i col.toNat).length).map rowD)) (PB := (· = .int (((turned st.rows i col.toNat).getD i []).getD col.toNat 0))) (by walk_at "sto") (by walk_at "sto")
        (ef_callF (PA := (· = [.dat (rowsD (turned st.rows i col.toNat)), .dat (.int st.scale), .dat (.int i), .dat (.int col)])) (Pc := pcPv) ⟨hPv⟩ rfl (ed_dat (by walk_at "var") (ed_dat (by walk_at "var") (ed_dat (by walk_at "var") (ed_dat (by walk_at "var") ed_nil))))
          (fun l hl => ⟨_, ⟨turned st.rows i col.toNat, C, st.scale, i, col.toNat, by rw [hl, ← hce], rect', hil', hcC, ok.pos, ok.sm, rfl⟩, fun d hd => hd⟩))
        (ev_ixL (ev_ixL (l := (turned st.rows i col.toNat).map rowD) (by walk_at "var") (by walk_at "var") (at_rows hil')) (by walk_at "var") (at_rowI h0 (by rw [hrl']; omega))) (fun l e hl he => ⟨.dat (.int i), .dat (.int col), ?_⟩)))
      subst hl; subst he
      rw [hst, turned_len, List.map_append]; rfl
    · have h0 : ¬ 0 ≤ col := by simpa using hb.symm
      have hst : st' = ⟨st.rows, st.scale, st.basis ++ [col]⟩ := by
        rw [hnext]; unfold settleStep; rw [hcol, if_neg h0]
      exact run_nil ⟨.dat (.int i), .dat (.int col), by rw [hst, List.map_append]; rfl⟩
  · rintro ds' ⟨z1, z2, rfl⟩
    rw [intsD_length]
    have ok := hok n (Nat.le_refl _)
    have hbl := settle_basis_len mm rows n
    generalize settleTo mm rows n = st at *
    refine run_freeze (i := 0) rfl (run_freeze (i := 4) rfl ?_)
    have ekept : ((intsD 0 n).filter (fun d => match d with | .int j => decide (0 ≤ st.basis.getD j.toNat 0) | _ => false)).map id = (keptL st.basis n).map (fun i : Nat => PyData.int (i : Int)) := by
      unfold intsD keptL
      rw [List.map_id, List.filter_map]
      congr 1
      · funext i; simp
      · refine List.filter_congr fun i _ => ?_
        simp
    have hkept : ∀ j ∈ keptL st.basis n, j < n := fun j hj => by unfold keptL at hj; simp at hj; exact hj.1
    refine run_to (ds1 := [.dat (rowsD st.rows), .dat (.int n), .dat (.int mm), .dat (.int st.scale), .dat (rowD st.basis), z1, z2, .dat (natD (keptL st.basis n)), .un])
      (rs_setLc (i := 7) [("at", 5)] (PL := (· = intsD 0 n)) (keep := fun d => match d with | .int j => decide (0 ≤ st.basis.getD j.toNat 0) | _ => false) (R := fun x y => y = id x) rfl rfl rfl (by decide +kernel) (by walk_at "blk") (wk_range1 (n := (n : Int)) rfl m.range (by walk_at "var") (by omega) (by omega)) (tg_name (i := 5) (by walk_at "sto")) (fun l hl => by rw [hl, intsD_length]; exact Nat.le_trans hn (by decide)) ?_ ?_) ?_
    · rintro items rfl d hd
      obtain ⟨j, hj⟩ := List.getElem?_of_mem hd
      obtain ⟨hjn, rfl⟩ := intsD_get hj
      rw [Int.zero_add]
      refine ⟨_, rfl, by simp, ei_one ((et_ge (ev_ixL (l := st.basis.map PyData.int) (by walk_at "var") (by walk_at "var") (at_row (by omega))) ev_int).is ?_), fun _ => ev_var 5 rfl (by walk_at "vis") rfl⟩
      simp
    · rintro items l rfl made
      have := made.filterMap
      rw [ekept] at this
      subst this; rfl
    refine run_one (rs_ret3 (P1 := (· = rowsD ((keptL st.basis n).map (fun i => st.rows.getD i []) ++ [st.rows.getD n []]))) (P2 := (· = .int st.scale)) (PL := (· = ((keptL st.basis n).map (fun i => st.basis.getD i 0)).map PyData.int))
      ((ev_catL (l := ((keptL st.basis n).map (fun i => st.rows.getD i [])).map rowD) (m := [rowD (st.rows.getD n [])]) ((ev_lc (ef_map [("at", 5)] (items := (keptL st.basis n).map (fun i : Nat => PyData.int (i : Int))) (getF (st.rows.map rowD)) (by walk_at "blk") (wk_list (by walk_at "var")) (tg_name (i := 5) (by walk_at "sto")) ?_ ?_)).is ?_) (ev_lst (ea_cons (ev_ixL (l := st.rows.map rowD) (by walk_at "var") (ev_neg ev_int) ?_) ea_nil) (by show 1 ≤ 100000; decide)) ?_).is (by unfold rowsD; rw [List.map_append]; rfl)) (by walk_at "var")
      (fun X F σ G H s Q kk => ef_map [("at", 5)] (items := (keptL st.basis n).map (fun i : Nat => PyData.int (i : Int))) (getF (st.basis.map PyData.int)) (by walk_at "blk") (wk_list (by walk_at "var")) (tg_name (i := 5) (by walk_at "sto")) ?_ ?_ (by intros; rfl) X F σ G H s Q (fun p xs G' H' l a1 a2 a3 a4 a5 a6 a7 a8 a9 => kk p xs G' H' l a1 a2 a3 a4 a5 a6 a7 a8 ?_)) (fun a b t ha hb ht => ⟨ha, hb, ht⟩))
    · simp; exact Nat.le_trans (List.length_filter_le _ _) (by simp; exact Nat.le_trans hn (by decide))
    · intro d hd
      obtain ⟨j, hj, rfl⟩ := List.mem_map.mp hd
      have hjn := hkept j hj
      refine ⟨_, rfl, by simp, (ev_ixL (l := st.rows.map rowD) (by walk_at "var") (by walk_at "var") (at_rows (by rw [ok.len]; omega))).is ?_⟩
      show rowD (st.rows.getD j []) = (st.rows.map rowD).getD (j : Int).toNat .none
      rw [Int.toNat_natCast, List.getD_eq_getElem?_getD, List.getD_eq_getElem?_getD, List.getElem?_map, List.getElem?_eq_getElem (by rw [ok.len]; omega)]; rfl
    · congr 1
      rw [List.map_map, List.map_map]
      refine List.map_congr_left fun j hj => ?_
      have hjn := hkept j hj
      show (st.rows.map rowD).getD (j : Int).toNat .none = rowD (st.rows.getD j [])
      rw [Int.toNat_natCast, List.getD_eq_getElem?_getD, List.getD_eq_getElem?_getD, List.getElem?_map, List.getElem?_eq_getElem (by rw [ok.len]; omega)]; rfl
    · have h1 : st.rows = st.rows.take n ++ [st.rows.getD n []] := by
        conv => lhs; rw [← List.take_append_drop n st.rows]
        congr 1
        rw [List.drop_eq_getElem_cons (by rw [ok.len]; omega), List.drop_eq_nil_of_le (by rw [ok.len]; omega)]
        simp [List.getD, ok.len]
      have := at_rows_last (rs := st.rows.take n) (r := st.rows.getD n [])
      rwa [← h1] at this
    · simp; exact Nat.le_trans (Nat.add_le_add_right (List.length_filter_le _ _) 1) (by simp; exact Nat.le_trans (Nat.add_le_add_right hn 1) (by decide))
    · simp; exact Nat.le_trans (List.length_filter_le _ _) (by simp; exact Nat.le_trans hn (by decide))
    · intro d hd
      obtain ⟨j, hj, rfl⟩ := List.mem_map.mp hd
      have hjn := hkept j hj
      refine ⟨_, rfl, by simp, (ev_ixL (l := st.basis.map PyData.int) (by walk_at "var") (by walk_at "var") (at_row (by omega))).is ?_⟩
      show PyData.int (st.basis.getD j 0) = (st.basis.map PyData.int).getD (j : Int).toNat .none
      rw [Int.toNat_natCast, List.getD_eq_getElem?_getD, List.getD_eq_getElem?_getD, List.getElem?_map, List.getElem?_eq_getElem (by omega)]; rfl
    · rw [a9, List.map_map, List.map_map]
      refine List.map_congr_left fun j hj => ?_
      have hjn := hkept j hj
      show (st.basis.map PyData.int).getD (j : Int).toNat .none = PyData.int (st.basis.getD j 0)
      rw [Int.toNat_natCast, List.getD_eq_getElem?_getD, List.getD_eq_getElem?_getD, List.getElem?_map, List.getElem?_eq_getElem (by omega)]; rfl
end

end K8

set_option Elab.async false
set_option maxRecDepth 100000
set_option exponentiation.threshold 2000
set_option linter.all false
set_option maxHeartbeats 1000000
namespace K8
open PySem L2 Dl
local macro_rules | `(tactic| walk_at "vis") => `(tactic| first | exact Or.inl rfl | exact Or.inr (Or.inl rfl) | exact Or.inr (Or.inr rfl))
local macro_rules | `(tactic| walk_at "sto") => `(tactic| first | exact ⟨rfl, Or.inl rfl, Or.inl rfl⟩ | exact ⟨rfl, Or.inl rfl, Or.inr rfl⟩ | exact ⟨rfl, Or.inr rfl, Or.inl rfl⟩)
local macro_rules | `(tactic| walk_at "var") => `(tactic| first
  | exact ev_var 0 rfl (by walk_at "vis") rfl | exact ev_var 1 rfl (by walk_at "vis") rfl | exact ev_var 2 rfl (by walk_at "vis") rfl | exact ev_var 3 rfl (by walk_at "vis") rfl
  | exact ev_var 4 rfl (by walk_at "vis") rfl | exact ev_var 5 rfl (by walk_at "vis") rfl | exact ev_var 6 rfl (by walk_at "vis") rfl | exact ev_var 7 rfl (by walk_at "vis") rfl
  | exact ev_var 8 rfl (by walk_at "vis") rfl | exact ev_var 9 rfl (by walk_at "vis") rfl | exact ev_var 10 rfl (by walk_at "vis") rfl | exact ev_var 11 rfl (by walk_at "vis") rfl
  | exact ev_var 12 rfl (by walk_at "vis") rfl | exact ev_var 13 rfl (by walk_at "vis") rfl | exact ev_var 14 rfl (by walk_at "vis") rfl | exact ev_var 15 rfl (by walk_at "vis") rfl)

local macro_rules | `(tactic| walk_at "ev") => `(tactic| first
  | exact ev_int | exact ev_bl | exact ev_str | exact ev_non
  | walk_at "var"
  | (refine ev_neg ?_ <;> walk_at "ev")
  | (refine ev_add ?_ ?_ <;> walk_at "ev")
  | (refine ev_sub ?_ ?_ <;> walk_at "ev"))

local macro_rules | `(tactic| walk_at "blk") => `(tactic| (dsimp only; decide +kernel))
theorem gcd_sm : ∀ (l : List Int) (a : Int), Sm a → 0 ≤ a → SmRow l → Sm (l.foldl (fun a x => ((Nat.gcd a.natAbs x.natAbs : Nat) : Int)) a) ∧ 0 ≤ l.foldl (fun a x => ((Nat.gcd a.natAbs x.natAbs : Nat) : Int)) a
  | [], a, ha, h0, _ => ⟨ha, h0⟩
  | x :: l, a, ha, h0, hl => by
    rw [List.foldl_cons]
    refine gcd_sm l _ ?_ (by omega) (fun y hy => hl y (by simp [hy]))
    have hx := hl x (by simp)
    unfold Sm at *
    show (Nat.gcd a.natAbs x.natAbs : Nat) < _
    by_cases h : a.natAbs = 0
    · rw [h, Nat.gcd_zero_left]; exact hx
    · exact Nat.lt_of_le_of_lt (Nat.gcd_le_left _ (by omega)) ha
theorem by_sm {l : List Int} (h : SmRow l) : 0 < byL l ∧ Sm (byL l) := by
  have ⟨h1, h2⟩ := gcd_sm l 0 (by unfold Sm; decide) (by omega) h
  unfold byL
  split
  · exact ⟨by decide, by unfold Sm; decide⟩
  · rename_i hne
    refine ⟨?_, h1⟩
    have : 0 ≤ gcdL l := h2
    omega
structure Tab where
  rows : List (List Int)
  scale : Int
  basis : List Nat
def Tab.goal (t : Tab) : List Int := t.rows.getD t.basis.length []
def Tab.next (t : Tab) (p q : Nat) : Tab := ⟨pivL t.rows t.scale p q t.rows.length, (t.rows.getD p []).getD q 0, t.basis.set p q⟩
structure TabOk (t : Tab) (m C : Nat) : Prop where
  rect : Rect t.rows C
  len : t.rows.length = t.basis.length + 1
  pos : 0 < t.scale
  sm : Sm t.scale
  bas : ∀ b ∈ t.basis, b < m
  le : m ≤ C
inductive Res where
  | point (p : List Int)
  | sum (ws : List Int)
def Res.d (wk : Nat) : Res → D
  | .point p => .tuple [.str "point", wallD p]
  | .sum ws => .tuple [.str "sum", wallD (ws.take wk), wallD (ws.drop wk)]
/-- the exchanges from a tableau on: so many, to this end -/
inductive Ends (m C : Nat) (st : List Nat) : Nat → Tab → Res → Prop where
  | point {t : Tab} : TabOk t m C → bestC t.goal m < 0 → Ends m C st 0 t (.point (divL ((t.goal.drop m).map (- ·))))
  | sum {t : Tab} {q : Nat} : TabOk t m C → bestC t.goal m = q → q < m → leaveL t.rows q st t.basis.length < 0 → Ends m C st 0 t (.sum (divL (weightsL t.rows t.scale t.basis q m t.basis.length)))
  | step {t : Tab} {p q k : Nat} {r : Res} : TabOk t m C → bestC t.goal m = q → q < m → leaveL t.rows q st t.basis.length = p → Ends m C st k (t.next p q) r → Ends m C st (k + 1) t r
theorem weights_sm (rows : List (List Int)) (C : Nat) (hr : Rect rows C) (scale : Int) (hs : Sm scale) (basis : List Nat) (q m : Nat) : ∀ i, i ≤ rows.length → SmRow (weightsL rows scale basis q m i)
  | 0, _ => by
    intro x hx
    unfold weightsL at hx
    rw [List.range_zero, List.foldl_nil] at hx
    rcases List.mem_or_eq_of_mem_set hx with h | h
    · rw [List.eq_of_mem_replicate h]; unfold Sm; decide
    · rw [h]; exact hs
  | i + 1, hi => by
    have ih := weights_sm rows C hr scale hs basis q m i (by omega)
    intro x hx
    unfold weightsL at *
    rw [List.range_succ, List.foldl_append, List.foldl_cons, List.foldl_nil] at hx
    rcases List.mem_or_eq_of_mem_set hx with h | h
    · exact ih x h
    · rw [h]; unfold Sm; rw [Int.natAbs_neg]; exact (hr.at_sm (by omega)).at q
section
variable {P : Program} {w : World} {K : Frag} {mg : Str → Option Value} {base : Heap} {k : Nat} {f : Addr} {fd : FuncData}

/-! judge_signs(width, weak, strict) -/
abbrev sJs : Stmt := top 13
theorem scJs : FnScope ["width", "weak", "strict", "many", "rows", "scale", "basis", "start", "column", "at", "weights", "x"] ["width", "weak", "strict"] (defScope sJs) := ⟨rfl, rfl, rfl, by decide +kernel, rfl, by decide +kernel, by decide +kernel⟩
def rows0 (n : Nat) (weak strict : List (List Int)) : List (List Int) := firstRows n weak strict n ++ [goalR n weak strict]
def tabOf (S : SSt) (n : Nat) : Tab :=
  ⟨(keptL S.basis n).map (fun i => S.rows.getD i []) ++ [S.rows.getD n []], S.scale, (keptL S.basis n).map (fun i => (S.basis.getD i 0).toNat)⟩
def pcJs : List AD → (D → Prop) → Prop := fun ads R => ∃ (n : Nat) (weak strict : List (List Int)) (S : SSt) (j : Nat) (r : Res), ads = [.dat (.int n), .dat (wallsD weak), .dat (wallsD strict)] ∧ n ≤ 8 ∧ weak.length ≤ 100 ∧ strict.length ≤ 100 ∧ (∀ r ∈ weak ++ strict, r.length = n) ∧
  S = settleTo (weak.length + strict.length) (rows0 n weak strict) n ∧
  (∀ i, i ≤ n → SOk (settleTo (weak.length + strict.length) (rows0 n weak strict) i) n (weak.length + strict.length + n)) ∧
  Ends (weak.length + strict.length) (weak.length + strict.length + n) (tabOf S n).basis j (tabOf S n) r ∧ R = (· = r.d weak.length)
theorem Ends.ok {m C : Nat} {st : List Nat} {j : Nat} {t : Tab} {r : Res} (h : Ends m C st j t r) : TabOk t m C := by cases h <;> assumption
theorem goal_at {t : Tab} (h : t.rows.length = t.basis.length + 1) : atI (t.rows.map rowD) (-1) = some (rowD t.goal) := by
  have h1 : t.rows = t.rows.take t.basis.length ++ [t.rows.getD t.basis.length []] := by
    conv => lhs; rw [← List.take_append_drop t.basis.length t.rows]
    congr 1
    rw [List.drop_eq_getElem_cons (by omega), List.drop_eq_nil_of_le (by omega)]
    simp [List.getD, h]
  have := at_rows_last (rs := t.rows.take t.basis.length) (r := t.rows.getD t.basis.length [])
  rwa [← h1] at this
theorem ok_Js (m : Mg mg) (F : Fun K "judge_signs" "judge_signs" sJs f fd) (hSe : Has P w K mg base k "settled_rows" (spG K pcSe)) (hFr : Has P w K mg base k "first_rows" (spF K pcFr)) (hBc : Has P w K mg base k "best_column" (spD K pcBc)) (hLr : Has P w K mg base k "leaving_row" (spD K pcLr))
    (hDv : Has P w K mg base k "divided" (spF K pcDv)) (hWo : Has P w K mg base k "weights_of" (spF K pcWo)) (hPv : Has P w K mg base k "pivoted" (spF K pcPv)) : FnOk P w K mg base CX0 (k + 1) f fd ["width", "weak", "strict"] (spD K pcJs) := by
  refine fn_mkD F scJs (fun ads R h => by obtain ⟨_, _, _, _, _, _, rfl, _⟩ := h; rfl) fun c ads R h hz => ?_
  obtain ⟨n, weak, strict, S0, j, r, rfl, hn, hw, hs, hlen, hS, hok, hends, rfl⟩ := h
  have e0 : (weak.length : Int) + (strict.length : Int) = ((weak.length + strict.length : Nat) : Int) := by omega
  refine run_to (rs_set (i := 3) (d := .int ((weak.length + strict.length : Nat) : Int)) (by walk_at "sto") ((ev_add (ev_lenT (l := weak.map wallD) rfl m.len (by walk_at "var")) (ev_lenT (l := strict.map wallD) rfl m.len (by walk_at "var"))).is (by simp))) ?_
  have hkn : ∀ (bs : List Int), ∀ i ∈ keptL bs n, i < n ∧ 0 ≤ bs.getD i 0 := fun bs i hi => by unfold keptL at hi; simp at hi; refine ⟨hi.1, ?_⟩; rw [List.getD_eq_getElem?_getD]; exact hi.2
  have hbas : ((keptL S0.basis n).map (fun i => S0.basis.getD i 0)).map PyData.int = (tabOf S0 n).basis.map (fun b : Nat => PyData.int (b : Int)) := by
    unfold tabOf
    rw [List.map_map, List.map_map]
    refine List.map_congr_left fun i hi => ?_
    have := (hkn _ i hi).2
    show PyData.int _ = PyData.int _
    rw [Int.toNat_of_nonneg this]
  refine run_to (ds1 := [.dat (.int n), .dat (wallsD weak), .dat (wallsD strict), .dat (.int ((weak.length + strict.length : Nat) : Int)), .dat (rowsD (tabOf S0 n).rows), .dat (.int (tabOf S0 n).scale), .own ((tabOf S0 n).basis.map (fun b : Nat => PyData.int (b : Int))), .un, .un, .un, .un, .un])
    (rs_callG (i := 4) (j := 5) (m := 6) (Pc := pcSe) (PL := (· = (rows0 n weak strict).map rowD)) (PA := (· = [.dat (.int n), .dat (.int ((weak.length + strict.length : Nat) : Int))])) (by walk_at "sto") (by walk_at "sto") (by walk_at "sto") ⟨hSe⟩ rfl ?A ?B ?C) ?D
  case A => exact ef_callF (PA := (· = [.dat (.int n), .dat (wallsD weak), .dat (wallsD strict)])) (Pc := pcFr) ⟨hFr⟩ rfl (ed_dat (by walk_at "var") (ed_dat (by walk_at "var") (ed_dat (by walk_at "var") ed_nil))) (fun l hl => ⟨_, ⟨n, weak, strict, hl, hn, hw, hs, hlen, rfl⟩, fun d hd => by rw [hd]; unfold rows0; rfl⟩)
  case B => exact ed_dat (by walk_at "var") (ed_dat (by walk_at "var") ed_nil)
  case C =>
    intro l ads hl ha
    refine ⟨_, ⟨rows0 n weak strict, n, weak.length + strict.length, weak.length + strict.length + n, hl, ha, hn, by omega, hok, rfl⟩, ?_⟩
    rintro a b t ⟨h1, h2, h3⟩
    rw [← hS] at h1 h2 h3
    subst h1; subst h2; subst h3
    rw [hbas]
    unfold tabOf
    rfl
  have ok0 := hends.ok
  refine run_to (rs_set (i := 7) (d := natD (tabOf S0 n).basis) (by walk_at "sto") (ev_listO (i := 6) rfl m.list rfl (by walk_at "vis") rfl)) ?_
  refine run_to (rs_setP (P := (· = .int (bestC (tabOf S0 n).goal (weak.length + strict.length)))) (i := 8) (by walk_at "sto") (ev_callD (PA := (· = [.dat (rowD (tabOf S0 n).goal), .dat (.int ((weak.length + strict.length : Nat) : Int))])) (Pc := pcBc) ⟨hBc⟩ rfl (ed_dat (ev_ixL (l := (tabOf S0 n).rows.map rowD) (by walk_at "var") (ev_neg ev_int) (goal_at ok0.len)) (ed_dat (by walk_at "var") ed_nil))
      (fun l hl => ⟨_, ⟨_, _, hl, rfl⟩, fun d hd => hd⟩)) (fun d hd => by subst hd; exact rfl)) ?_
  generalize hst : (tabOf S0 n).basis = st at *
  generalize (tabOf S0 n) = t0 at *
  subst hst
  generalize hst : t0.basis = st at *
  have hmm : weak.length + strict.length ≤ 200 := by omega
  generalize hm : weak.length + strict.length = mm at *
  have hst2 : ∀ b ∈ st, b < mm := fun b hb => ok0.bas b (by rw [hst]; exact hb)
  have e1 : ∀ b ∈ st, b < mm + n := fun b hb => Nat.lt_of_lt_of_le (hst2 b hb) (by omega)
  refine run_cons (Mid := fun ds' => ∃ (t : Tab) (z1 z2 z3 : SD), ds' = [.dat (.int n), .dat (wallsD weak), .dat (wallsD strict), .dat (.int mm), .dat (rowsD t.rows), .dat (.int t.scale), .own (t.basis.map (fun b : Nat => PyData.int (b : Int))), .dat (natD st), .dat (.int (bestC t.goal mm)), z1, z2, z3] ∧ TabOk t mm (mm + n) ∧ r = .point (divL ((t.goal.drop mm).map (- ·))))
    (rs_while (fun i ds' => ∃ (t : Tab) (z1 z2 z3 : SD), ds' = [.dat (.int n), .dat (wallsD weak), .dat (wallsD strict), .dat (.int mm), .dat (rowsD t.rows), .dat (.int t.scale), .own (t.basis.map (fun b : Nat => PyData.int (b : Int))), .dat (natD st), .dat (.int (bestC t.goal mm)), z1, z2, z3] ∧ Ends mm (mm + n) st i t r) j ⟨t0, .un, .un, .un, by rw [hst]; rfl, hends⟩ ?_) ?_
  · rintro i ds' ⟨t, z1, z2, z3, rfl, he⟩
    have ok := he.ok
    have hC : mm + n ≤ 1000 := ok.rect.most
    cases he with
    | point tok hb =>
      exact ⟨false, (et_ge (by walk_at "var") ev_int).is (by simp; omega), (fun h => by cases h), fun _ => ⟨t, z1, z2, z3, rfl, tok, rfl⟩⟩
    | @sum _ q tok hb hq hl =>
      refine ⟨true, (et_ge (by walk_at "var") ev_int).is (by simp; omega), fun _ => ?_, fun h => by cases h⟩
      have hlen1 : t.rows.length - 1 = t.basis.length := by rw [tok.len]; omega
      have hlen0 : 0 < t.rows.length := by rw [tok.len]; omega
      refine run_to (rs_setP (P := (· = .int (leaveL t.rows q st t.basis.length))) (i := 9) (by walk_at "sto") (ev_callD (PA := (· = [.dat (rowsD t.rows), .dat (.int q), .dat (natD st)])) (Pc := pcLr) ⟨hLr⟩ rfl (ed_dat (by walk_at "var") (ed_dat ((ev_var 8 rfl (by walk_at "vis") rfl).is (by rw [hb])) (ed_dat (by walk_at "var") ed_nil)))
        (fun l hl => ⟨_, ⟨t.rows, mm + n, q, st, hl, tok.rect, hlen0, by omega, e1, by rw [hlen1]⟩, fun d hd => hd⟩)) (fun d hd => by subst hd; exact rfl)) ?_
      refine run_cons (Mid := fun _ => False) (rs_if (et_lt (by walk_at "var") ev_int) (fun hbb => ?_) (fun hbb => ?_)) (fun _ h => h.elim)
      · have hwsm := weights_sm t.rows (mm + n) tok.rect t.scale tok.sm t.basis q mm t.basis.length (by rw [tok.len]; omega)
        have hby := by_sm hwsm
        have hwl := weightsL_len t.rows t.scale t.basis q mm t.basis.length
        refine run_freeze (i := 6) rfl ?_
        refine run_to (rs_setP (P := (· = .list ((divL (weightsL t.rows t.scale t.basis q mm t.basis.length)).map PyData.int))) (i := 10) (by walk_at "sto") (ev_fresh (PL := (· = (divL (weightsL t.rows t.scale t.basis q mm t.basis.length)).map PyData.int)) (ef_callF (PA := (· = [.dat (rowD (weightsL t.rows t.scale t.basis q mm t.basis.length))])) (Pc := pcDv) ⟨hDv⟩ rfl
          (ed_dat (ev_lc (ef_callF (PA := (· = [.dat (rowsD t.rows), .dat (.int t.scale), .dat (natD t.basis), .dat (.int q), .dat (.int mm)])) (Pc := pcWo) ⟨hWo⟩ rfl (ed_dat (by walk_at "var") (ed_dat (by walk_at "var") (ed_dat (by walk_at "var") (ed_dat ((ev_var 8 rfl (by walk_at "vis") rfl).is (by rw [hb])) (ed_dat (by walk_at "var") ed_nil)))))
            (fun l hl => ⟨_, ⟨t.rows, mm + n, t.scale, t.basis, q, mm, hl, tok.rect, by rw [tok.len]; omega, by omega, hq, by omega, tok.bas, rfl⟩, fun d hd => hd⟩))) ed_nil)
          (fun l hl => ⟨_, ⟨_, hl, by rw [hwl]; exact Nat.le_trans hmm (by decide), hby.1, hby.2, rfl⟩, fun d hd => hd⟩)) (fun l hl => by rw [hl])) (fun d hd => by subst hd; exact rfl)) ?_
        generalize hws : divL (weightsL t.rows t.scale t.basis q mm t.basis.length) = ws
        refine run_one (rs_ret (d := (Res.sum ws).d weak.length) (ev_tup (ea_cons ev_str (ea_cons ((ev_tupleL rfl m.tuple (ev_slL (l := ws.map PyData.int) (by walk_at "var") eo_none (eo_some (ev_lenT (l := weak.map wallD) rfl m.len (by walk_at "var"))))).is ?_) (ea_cons ((ev_tupleL rfl m.tuple (ev_slL (l := ws.map PyData.int) (by walk_at "var") (eo_some (ev_lenT (l := weak.map wallD) rfl m.len (by walk_at "var"))) eo_none)).is ?_) ea_nil))) (hl := by show 3 ≤ 100000; decide)) ?_)
        · rw [cut_take, List.length_map]; unfold wallD; rw [List.map_take]
        · rw [cut_drop, List.length_map]; unfold wallD; rw [List.map_drop]
        · rfl
      · exfalso
        have : ¬ leaveL t.rows q st t.basis.length < 0 := by simpa using hbb.symm
        exact this hl
    | @step _ p q k2 _ tok hb hq hl hrest =>
      refine ⟨true, (et_ge (by walk_at "var") ev_int).is (by simp; omega), fun _ => ?_, fun h => by cases h⟩
      have hlen1 : t.rows.length - 1 = t.basis.length := by rw [tok.len]; omega
      have hlen0 : 0 < t.rows.length := by rw [tok.len]; omega
      have hpl : p < t.basis.length := by
        have := (leaveL_lt t.rows q st t.basis.length).2
        omega
      have hpr : p < t.rows.length := by rw [tok.len]; omega
      refine run_to (rs_setP (P := (· = .int p)) (i := 9) (by walk_at "sto") (ev_callD (PA := (· = [.dat (rowsD t.rows), .dat (.int q), .dat (natD st)])) (Pc := pcLr) ⟨hLr⟩ rfl (ed_dat (by walk_at "var") (ed_dat ((ev_var 8 rfl (by walk_at "vis") rfl).is (by rw [hb])) (ed_dat (by walk_at "var") ed_nil)))
        (fun l hl' => ⟨_, ⟨t.rows, mm + n, q, st, hl', tok.rect, hlen0, by omega, e1, by rw [hlen1, hl]⟩, fun d hd => hd⟩)) (fun d hd => by subst hd; exact rfl)) ?_
      refine run_cons (Mid := (· = [.dat (.int n), .dat (wallsD weak), .dat (wallsD strict), .dat (.int mm), .dat (rowsD t.rows), .dat (.int t.scale), .own (t.basis.map (fun b : Nat => PyData.int (b : Int))), .dat (natD st), .dat (.int (bestC t.goal mm)), .dat (.int p), z2, z3])) (rs_if (et_lt (by walk_at "var") ev_int) (fun hbb => by exfalso; simp at hbb; omega) (fun hbb => run_nil rfl)) ?_
      intro ds' hds; subst hds
      have hok2 := hrest.ok
      have hC2 : q < mm + n := by omega
      refine run_to (ds1 := [.dat (.int n), .dat (wallsD weak), .dat (wallsD strict), .dat (.int mm), .own ((t.next p q).rows.map rowD), .dat (.int (t.next p q).scale), .own (t.basis.map (fun b : Nat => PyData.int (b : Int))), .dat (natD st), .dat (.int (bestC t.goal mm)), .dat (.int p), z2, z3])
        (rs_parF (i := 4) (j := 5) (PL := (· = (t.next p q).rows.map rowD)) (PB := (· = .int (t.next p q).scale)) rfl rfl (by decide) rfl rfl
          (ef_callF (PA := (· = [.dat (rowsD t.rows), .dat (.int t.scale), .dat (.int p), .dat (.int q)])) (Pc := pcPv) ⟨hPv⟩ rfl (ed_dat (by walk_at "var") (ed_dat (by walk_at "var") (ed_dat (by walk_at "var") (ed_dat ((ev_var 8 rfl (by walk_at "vis") rfl).is (by rw [hb])) ed_nil))))
            (fun l hl' => ⟨_, ⟨t.rows, mm + n, t.scale, p, q, hl', tok.rect, hpr, hC2, tok.pos, tok.sm, rfl⟩, fun d hd => hd⟩))
          (ev_ixL (ev_ixL (l := t.rows.map rowD) (by walk_at "var") (by walk_at "var") (at_rows hpr)) ((ev_var 8 rfl (by walk_at "vis") rfl).is (by rw [hb])) (at_row (by rw [tok.rect.at_len hpr]; exact hC2))) (fun l e hl' he => by subst hl'; subst he; rfl)) ?_
      refine run_freeze (i := 4) rfl ?_
      refine run_to (ds1 := [.dat (.int n), .dat (wallsD weak), .dat (wallsD strict), .dat (.int mm), .dat (rowsD (t.next p q).rows), .dat (.int (t.next p q).scale), .own ((t.next p q).basis.map (fun b : Nat => PyData.int (b : Int))), .dat (natD st), .dat (.int (bestC t.goal mm)), .dat (.int p), z2, z3])
        (rs_setO (P := (· = .int q)) (i := 6) (n := p) rfl (by walk_at "vis") rfl ((ev_var 8 rfl (by walk_at "vis") rfl).is (by rw [hb])) (by walk_at "var") (ixN_nat (by simpa using hpl)) (fun d hd => by
          subst hd
          have : (t.basis.map (fun b : Nat => PyData.int (b : Int))).set p (.int q) = (t.next p q).basis.map (fun b : Nat => PyData.int (b : Int)) := by unfold Tab.next; rw [List.map_set]
          rw [this]; rfl)) ?_
      generalize t.next p q = t2 at *
      refine run_one (rs_setP (P := (· = .int (bestC t2.goal mm))) (i := 8) (by walk_at "sto") (ev_callD (PA := (· = [.dat (rowD t2.goal), .dat (.int mm)])) (Pc := pcBc) ⟨hBc⟩ rfl (ed_dat (ev_ixL (l := t2.rows.map rowD) (by walk_at "var") (ev_neg ev_int) (goal_at hok2.len)) (ed_dat (by walk_at "var") ed_nil))
        (fun l hl' => ⟨_, ⟨_, _, hl', rfl⟩, fun d hd => hd⟩)) (fun d hd => ⟨k2, Nat.lt_succ_self _, t2, .dat (.int p), z2, z3, by subst hd; rfl, hrest⟩))
  · rintro ds' ⟨t, z1, z2, z3, rfl, tok, rfl⟩
    have hgl : t.goal.length = mm + n := by unfold Tab.goal; exact tok.rect.at_len (by rw [tok.len]; omega)
    have hgs : SmRow t.goal := by unfold Tab.goal; exact tok.rect.at_sm (by rw [tok.len]; omega)
    have hns : SmRow ((t.goal.drop mm).map (- ·)) := by
      intro x hx
      obtain ⟨y, hy, rfl⟩ := List.mem_map.mp hx
      have := hgs y (List.mem_of_mem_drop hy)
      unfold Sm at *; rw [Int.natAbs_neg]; exact this
    have hby := by_sm hns
    have hC : mm + n ≤ 1000 := tok.rect.most
    refine run_one (rs_ret (d := (Res.point (divL ((t.goal.drop mm).map (- ·)))).d weak.length) (ev_tup (ea_cons ev_str (ea_cons (ev_tupleL (l := (divL ((t.goal.drop mm).map (- ·))).map PyData.int) rfl m.tuple (ev_fresh (PL := (· = (divL ((t.goal.drop mm).map (- ·))).map PyData.int)) (ef_callF (PA := (· = [.dat (rowD ((t.goal.drop mm).map (- ·)))])) (Pc := pcDv) ⟨hDv⟩ rfl
      (ed_dat ((ev_lc (ef_map [("x", 11)] (items := (t.goal.drop mm).map PyData.int) (intF (- ·)) (by walk_at "blk") (wk_list ((ev_slL (l := t.goal.map PyData.int) (ev_ixL (l := t.rows.map rowD) (by walk_at "var") (ev_neg ev_int) (goal_at tok.len)) (eo_some (by walk_at "var")) eo_none).is (by rw [cut_drop, List.map_drop]))) (tg_name (i := 11) (by walk_at "sto")) (by rw [List.length_map, List.length_drop, hgl]; exact Nat.le_trans (Nat.sub_le _ _) (Nat.le_trans hC (by decide))) ?_)).is (by rw [map_intF]; rfl)) ed_nil)
      (fun l hl => ⟨_, ⟨_, hl, by rw [List.length_map, List.length_drop, hgl]; exact Nat.le_trans (Nat.sub_le _ _) (Nat.le_trans hC (by decide)), hby.1, hby.2, rfl⟩, fun d hd => hd⟩)) (fun l hl => by rw [hl]))) ea_nil)) (hl := by show 2 ≤ 100000; decide)) rfl)
    intro d hd
    obtain ⟨x, hx, rfl⟩ := mem_int hd
    exact ⟨_, rfl, by simp, ev_neg (i := x) (by walk_at "var")⟩
end

end K8

set_option Elab.async false
set_option maxRecDepth 100000
set_option exponentiation.threshold 2000
set_option linter.all false
set_option maxHeartbeats 1000000
namespace K8
open PySem L2 Dl
local macro_rules | `(tactic| walk_at "vis") => `(tactic| first | exact Or.inl rfl | exact Or.inr (Or.inl rfl) | exact Or.inr (Or.inr rfl))
local macro_rules | `(tactic| walk_at "sto") => `(tactic| first | exact ⟨rfl, Or.inl rfl, Or.inl rfl⟩ | exact ⟨rfl, Or.inl rfl, Or.inr rfl⟩ | exact ⟨rfl, Or.inr rfl, Or.inl rfl⟩)
local macro_rules | `(tactic| walk_at "var") => `(tactic| first
  | exact ev_var 0 rfl (by walk_at "vis") rfl | exact ev_var 1 rfl (by walk_at "vis") rfl | exact ev_var 2 rfl (by walk_at "vis") rfl | exact ev_var 3 rfl (by walk_at "vis") rfl
  | exact ev_var 4 rfl (by walk_at "vis") rfl | exact ev_var 5 rfl (by walk_at "vis") rfl | exact ev_var 6 rfl (by walk_at "vis") rfl | exact ev_var 7 rfl (by walk_at "vis") rfl
  | exact ev_var 8 rfl (by walk_at "vis") rfl | exact ev_var 9 rfl (by walk_at "vis") rfl | exact ev_var 10 rfl (by walk_at "vis") rfl | exact ev_var 11 rfl (by walk_at "vis") rfl
  | exact ev_var 12 rfl (by walk_at "vis") rfl | exact ev_var 13 rfl (by walk_at "vis") rfl | exact ev_var 14 rfl (by walk_at "vis") rfl | exact ev_var 15 rfl (by walk_at "vis") rfl)

local macro_rules | `(tactic| walk_at "ev") => `(tactic| first
  | exact ev_int | exact ev_bl | exact ev_str | exact ev_non
  | walk_at "var"
  | (refine ev_neg ?_ <;> walk_at "ev")
  | (refine ev_add ?_ ?_ <;> walk_at "ev")
  | (refine ev_sub ?_ ?_ <;> walk_at "ev"))

local macro_rules | `(tactic| walk_at "blk") => `(tactic| (dsimp only; decide +kernel))
section
open Sg
/-! the tableaus of lists and those of functions -/
def Like (rows : List (List Int)) (N C : Nat) (T : Nat → Nat → Int) : Prop :=
  rows.length = N ∧ (∀ i, i < N → (rows.getD i []).length = C) ∧ ∀ i, i < N → ∀ j, j < C → (rows.getD i []).getD j 0 = T i j
theorem Like.congr {rows : List (List Int)} {N C : Nat} {T T' : Nat → Nat → Int} (h : Like rows N C T) (e : ∀ i, i < N → ∀ j, j < C → T i j = T' i j) : Like rows N C T' :=
  ⟨h.1, h.2.1, fun i hi j hj => by rw [h.2.2 i hi j hj, e i hi j hj]⟩
theorem getD_map_range {α : Type} (n : Nat) (f : Nat → α) (d : α) {i : Nat} (h : i < n) : ((List.range n).map f).getD i d = f i := by
  rw [List.getD_eq_getElem?_getD, List.getElem?_map, List.getElem?_range h]; rfl
theorem getD_map_lt {α β : Type} (l : List α) (f : α → β) (d : α) (e : β) {i : Nat} (h : i < l.length) : (l.map f).getD i e = f (l.getD i d) := by
  rw [List.getD_eq_getElem?_getD, List.getD_eq_getElem?_getD, List.getElem?_map, List.getElem?_eq_getElem h]; rfl
theorem getD_append_l {α : Type} (l r : List α) (d : α) {i : Nat} (h : i < l.length) : (l ++ r).getD i d = l.getD i d := by
  rw [List.getD_eq_getElem?_getD, List.getD_eq_getElem?_getD, List.getElem?_append_left h]
theorem getD_append_r {α : Type} (l r : List α) (d : α) {i : Nat} (h : l.length ≤ i) : (l ++ r).getD i d = r.getD (i - l.length) d := by
  rw [List.getD_eq_getElem?_getD, List.getD_eq_getElem?_getD, List.getElem?_append_right h]
theorem getD_rep {α : Type} (n : Nat) (x d : α) {i : Nat} (h : i < n) : (List.replicate n x).getD i d = x := by
  rw [List.getD_eq_getElem?_getD, List.getElem?_replicate, if_pos h]; rfl
theorem getD_zip (l r : List Int) (f : Int × Int → Int) {i : Nat} (h : i < l.length) (h2 : i < r.length) : ((l.zip r).map f).getD i 0 = f (l.getD i 0, r.getD i 0) := by
  rw [List.getD_eq_getElem?_getD, List.getElem?_map, List.getElem?_eq_getElem (by rw [List.length_zip]; omega), List.getElem_zip]
  simp [List.getD, List.getElem?_eq_getElem h, List.getElem?_eq_getElem h2]
theorem getD_mem {α : Type} (l : List α) (d : α) {i : Nat} (h : i < l.length) : l.getD i d ∈ l := by
  rw [List.getD_eq_getElem?_getD, List.getElem?_eq_getElem h]; exact List.getElem_mem h
theorem mem_getD {α : Type} {l : List α} {x : α} (d : α) (h : x ∈ l) : ∃ i, i < l.length ∧ l.getD i d = x := by
  obtain ⟨i, hi, rfl⟩ := List.getElem_of_mem h
  exact ⟨i, hi, by rw [List.getD_eq_getElem?_getD, List.getElem?_eq_getElem hi]; rfl⟩
theorem getD_set (l : List Int) (b : Nat) (x : Int) (i : Nat) (hb : b < l.length) : (l.set b x).getD i 0 = if i = b then x else l.getD i 0 := by
  rw [List.getD_eq_getElem?_getD, List.getD_eq_getElem?_getD, List.getElem?_set]
  by_cases e : b = i
  · subst e; simp [hb]
  · rw [if_neg e, if_neg (Ne.symm e)]

theorem like_piv {rows : List (List Int)} {N C : Nat} {T : Nat → Nat → Int} {d : Int} {p q : Nat} (h : Like rows N C T) (hp : p < N) (hq : q < C) :
    Like (pivL rows d p q rows.length) N C (piv T d p q) := by
  obtain ⟨h1, h2, h3⟩ := h
  have hr : ∀ i, i < N → (pivL rows d p q rows.length).getD i [] = pivRow rows d p q i := fun i hi => by
    unfold pivL; rw [getD_map_range _ _ _ (by omega)]
  refine ⟨by unfold pivL; rw [List.length_map, List.length_range, h1], fun i hi => ?_, fun i hi j hj => ?_⟩
  · rw [hr i hi]; unfold pivRow
    split
    · exact h2 p hp
    · split
      · rw [List.length_map]; exact h2 i hi
      · rw [List.length_map, List.length_zip, h2 i hi, h2 p hp]; omega
  · rw [hr i hi]; unfold pivRow piv
    split
    · exact h3 p hp j hj
    · split
      · rename_i h0
        rw [getD_map_lt _ _ 0 _ (by rw [h2 i hi]; exact hj), h3 i hi j hj, h3 p hp q hq]
        rw [h3 i hi q hq] at h0; rw [h0]; simp
      · rw [getD_zip _ _ _ (by rw [h2 i hi]; exact hj) (by rw [h2 p hp]; exact hj), h3 i hi j hj, h3 p hp q hq, h3 i hi q hq, h3 p hp j hj]

theorem like_turned {rows : List (List Int)} {N C : Nat} {T : Nat → Nat → Int} {p q : Nat} (h : Like rows N C T) (hp : p < N) (hq : q < C) :
    Like (K8.turned rows p q) N C (if T p q < 0 then (fun i j => if i = p then - T p j else T i j) else T) := by
  obtain ⟨h1, h2, h3⟩ := h
  unfold K8.turned
  rw [h3 p hp q hq]
  split
  · refine ⟨by rw [List.length_set]; exact h1, fun i hi => ?_, fun i hi j hj => ?_⟩
    · rw [List.getD_eq_getElem?_getD, List.getElem?_set]
      split
      · rename_i e; subst e
        rw [if_pos (by omega)]
        show (List.map _ _).length = C
        rw [List.length_map]; exact h2 p hp
      · rw [← List.getD_eq_getElem?_getD]; exact h2 i hi
    · rw [List.getD_eq_getElem?_getD (l := rows.set _ _), List.getElem?_set]
      split
      · rename_i e; subst e
        rw [if_pos (by omega)]
        show (List.map _ _).getD j 0 = if p = p then - T p j else T p j
        rw [if_pos rfl, getD_map_lt _ _ 0 _ (by rw [h2 p hp]; exact hj), h3 p hp j hj]
      · rename_i e
        show _ = if i = p then - T p j else T i j
        rw [← List.getD_eq_getElem?_getD, if_neg (Ne.symm e)]; exact h3 i hi j hj
  · exact ⟨h1, h2, h3⟩

theorem firstNZ_spec (row : List Int) : ∀ (n k : Nat),
    (firstNZ row k n < 0 → ∀ j, k ≤ j → j < k + n → row.getD j 0 = 0) ∧ (0 ≤ firstNZ row k n → row.getD (firstNZ row k n).toNat 0 ≠ 0)
  | 0, k => ⟨fun _ j _ _ => by omega, fun h => by simp [firstNZ] at h⟩
  | n + 1, k => by
    have ih := firstNZ_spec row n (k + 1)
    simp only [firstNZ]
    split
    · rename_i h
      refine ⟨fun h0 j hj hj2 => ?_, ih.2⟩
      by_cases e : j = k
      · subst e; exact h
      · exact ih.1 h0 j (by omega) (by omega)
    · rename_i h
      refine ⟨fun h0 => by omega, fun _ => ?_⟩
      rw [Int.toNat_natCast]; exact h

/-! the question of two tuples of rows -/
structure Asks (n : Nat) (weak strict : List (List Int)) : Prop where
  n8 : n ≤ 8
  len : ∀ r ∈ weak ++ strict, r.length = n
  sm : ∀ r ∈ weak ++ strict, ∀ x ∈ r, x.natAbs ≤ 2 ^ 40
  w1 : weak.length ≤ 100
  s1 : strict.length ≤ 100
def mxA (ws : List (List Int)) : Nat := (ws.flatten.map Int.natAbs).foldr max 1
theorem mxf_one : ∀ l : List Nat, 1 ≤ l.foldr max 1
  | [] => Nat.le_refl _
  | x :: l => Nat.le_trans (mxf_one l) (Nat.le_max_right _ _)
theorem mxf_ge : ∀ {l : List Nat} {x : Nat}, x ∈ l → x ≤ l.foldr max 1
  | y :: l, x, h => by
    rcases List.mem_cons.mp h with e | e
    · subst e; exact Nat.le_max_left _ _
    · exact Nat.le_trans (mxf_ge e) (Nat.le_max_right _ _)
theorem mxf_le {M : Nat} (h1 : 1 ≤ M) : ∀ {l : List Nat}, (∀ x ∈ l, x ≤ M) → l.foldr max 1 ≤ M
  | [], _ => h1
  | y :: l, h => Nat.max_le.mpr ⟨h y (by simp), mxf_le h1 (fun x hx => h x (by simp [hx]))⟩
theorem mx_mem {ws : List (List Int)} {r : List Int} {x : Int} (hr : r ∈ ws) (hx : x ∈ r) : x.natAbs ≤ mxA ws :=
  mxf_ge (List.mem_map.mpr ⟨x, List.mem_flatten.mpr ⟨r, hr, hx⟩, rfl⟩)
theorem mx_le {ws : List (List Int)} {M : Nat} (h1 : 1 ≤ M) (h : ∀ r ∈ ws, ∀ x ∈ r, x.natAbs ≤ M) : mxA ws ≤ M :=
  mxf_le h1 (fun y hy => by obtain ⟨x, hx, rfl⟩ := List.mem_map.mp hy; obtain ⟨r, hr, hxr⟩ := List.mem_flatten.mp hx; exact h r hr x hxr)
theorem top_mono : ∀ (n : Nat) {K K' : Nat}, K ≤ K' → Sg.top n K ≤ Sg.top n K'
  | 0, _, _, _ => Nat.le_refl _
  | n + 1, _, _, h => Nat.mul_le_mul_left _ (Nat.mul_le_mul h (top_mono n h))
def gv (weak strict : List (List Int)) (j k : Nat) : Int := ((weak ++ strict).getD j []).getD k 0
def askOf {n : Nat} {weak strict : List (List Int)} (h : Asks n weak strict) : Ask where
  n := n
  m := weak.length + strict.length
  G := gv weak strict
  c := fun j => if j < weak.length then 0 else 1
  K := mxA (weak ++ strict)
  K1 := mxf_one _
  hG := fun j hj k hk => by
    have hm : (weak ++ strict).getD j [] ∈ weak ++ strict := getD_mem _ _ (by rw [List.length_append]; exact hj)
    exact mx_mem hm (getD_mem _ _ (by rw [h.len _ hm]; exact hk))
  hc := fun j _ => by split <;> simp
theorem like_first {n : Nat} {weak strict : List (List Int)} (h : Asks n weak strict) :
    Like (rows0 n weak strict) (n + 1) (weak.length + strict.length + n) (fun i j => (askOf h).A j i) := by
  have hl : (firstRows n weak strict n).length = n := by unfold firstRows; rw [List.length_map, List.length_range]
  have e1 : ∀ i, i < n → (rows0 n weak strict).getD i [] = firstR n (weak ++ strict) i := fun i hi => by
    unfold rows0; rw [getD_append_l _ _ _ (by omega)]; unfold firstRows; rw [getD_map_range _ _ _ hi]
  have e2 : (rows0 n weak strict).getD n [] = goalR n weak strict := by
    unfold rows0; rw [getD_append_r _ _ _ (by omega), hl, Nat.sub_self]; rfl
  refine ⟨by unfold rows0; rw [List.length_append, hl]; rfl, fun i hi => ?_, fun i hi j hj => ?_⟩
  · by_cases e : i = n
    · subst e; rw [e2]; unfold goalR; simp; omega
    · rw [e1 i (by omega)]; unfold firstR; simp; omega
  · by_cases e : i = n
    · subst e; rw [e2]
      unfold goalR Ask.A
      show _ = if j < weak.length + strict.length then (if i < i then _ else if j < weak.length then 0 else 1) else (if i = j - (weak.length + strict.length) then 1 else 0)
      rw [if_neg (show ¬ i < i by omega)]
      by_cases h1 : j < weak.length
      · rw [if_pos (by omega), if_pos h1, getD_append_l _ _ _ (by simp; omega), getD_append_l _ _ _ (by simpa using h1), getD_rep _ _ _ h1]
      · by_cases h2 : j < weak.length + strict.length
        · rw [if_pos h2, if_neg h1, getD_append_l _ _ _ (by simp; omega), getD_append_r _ _ _ (by simp; omega), getD_rep _ _ _ (by simp; omega)]
        · rw [if_neg h2, if_neg (by omega), getD_append_r _ _ _ (by simp; omega), getD_rep _ _ _ (by simp; omega)]
    · have hin : i < n := by omega
      rw [e1 i hin]
      unfold firstR Ask.A
      show _ = if j < weak.length + strict.length then (if i < n then gv weak strict j i else _) else (if i = j - (weak.length + strict.length) then 1 else 0)
      rw [if_pos hin]
      by_cases h2 : j < weak.length + strict.length
      · rw [if_pos h2, getD_append_l _ _ _ (by simp; omega), getD_map_lt _ _ [] _ (by simp; omega)]; rfl
      · rw [if_neg h2, getD_append_r _ _ _ (by simp; omega), getD_map_range _ _ _ (by simp; omega)]
        simp
theorem top_sm {n : Nat} (h : n ≤ 8) : Sg.top (n + 1) (2 ^ 40) < 2 ^ 400 := by
  have : n = 0 ∨ n = 1 ∨ n = 2 ∨ n = 3 ∨ n = 4 ∨ n = 5 ∨ n = 6 ∨ n = 7 ∨ n = 8 := by omega
  rcases this with e | e | e | e | e | e | e | e | e <;> subst e <;> decide +kernel
theorem rect_of {n : Nat} {weak strict : List (List Int)} (h : Asks n weak strict) {rows : List (List Int)} {N : Nat} {T : Nat → Nat → Int} {d : Int} {has : Nat → Bool} {bas : Nat → Nat} {B : Nat → Nat → Int} {s : Int}
    (f : Nat → Nat) (hf : ∀ i, i < N → f i < n + 1) (hN : N ≤ n + 1) (l : Like rows N (weak.length + strict.length + n) (fun i j => T (f i) j)) (S : Stand (askOf h) T d has bas B s) :
    Rect rows (weak.length + strict.length + n) := by
  have h8 := h.n8; have h1 := h.w1; have h2 := h.s1
  refine ⟨fun r hr => ?_, fun r hr x hx => ?_, by omega, by rw [l.1]; omega⟩
  · obtain ⟨i, hi, rfl⟩ := mem_getD [] hr; exact l.2.1 i (by rw [← l.1]; exact hi)
  · obtain ⟨i, hi, rfl⟩ := mem_getD [] hr
    have hi' : i < N := by rw [← l.1]; exact hi
    obtain ⟨j, hj, rfl⟩ := mem_getD 0 hx
    rw [l.2.1 i hi'] at hj
    rw [l.2.2 i hi' j hj]
    unfold Sm
    exact Nat.lt_of_le_of_lt (Nat.le_trans (S.bound (hf i hi') (show j < weak.length + strict.length + n from hj)) (top_mono (n + 1) (mx_le (by decide) h.sm))) (top_sm h8)
theorem sm_of {n : Nat} {weak strict : List (List Int)} (h : Asks n weak strict) {T : Nat → Nat → Int} {d : Int} {has : Nat → Bool} {bas : Nat → Nat} {B : Nat → Nat → Int} {s : Int}
    (S : Stand (askOf h) T d has bas B s) : Sm d := Nat.lt_of_le_of_lt (Nat.le_trans S.bound_d (top_mono (n + 1) (mx_le (by decide) h.sm))) (top_sm h.n8)
end

end K8

set_option Elab.async false
set_option maxRecDepth 100000
set_option exponentiation.threshold 2000
set_option linter.all false
set_option maxHeartbeats 1000000
namespace K8
open PySem L2 Dl
local macro_rules | `(tactic| walk_at "vis") => `(tactic| first | exact Or.inl rfl | exact Or.inr (Or.inl rfl) | exact Or.inr (Or.inr rfl))
local macro_rules | `(tactic| walk_at "sto") => `(tactic| first | exact ⟨rfl, Or.inl rfl, Or.inl rfl⟩ | exact ⟨rfl, Or.inl rfl, Or.inr rfl⟩ | exact ⟨rfl, Or.inr rfl, Or.inl rfl⟩)
local macro_rules | `(tactic| walk_at "var") => `(tactic| first
  | exact ev_var 0 rfl (by walk_at "vis") rfl | exact ev_var 1 rfl (by walk_at "vis") rfl | exact ev_var 2 rfl (by walk_at "vis") rfl | exact ev_var 3 rfl (by walk_at "vis") rfl
  | exact ev_var 4 rfl (by walk_at "vis") rfl | exact ev_var 5 rfl (by walk_at "vis") rfl | exact ev_var 6 rfl (by walk_at "vis") rfl | exact ev_var 7 rfl (by walk_at "vis") rfl
  | exact ev_var 8 rfl (by walk_at "vis") rfl | exact ev_var 9 rfl (by walk_at "vis") rfl | exact ev_var 10 rfl (by walk_at "vis") rfl | exact ev_var 11 rfl (by walk_at "vis") rfl
  | exact ev_var 12 rfl (by walk_at "vis") rfl | exact ev_var 13 rfl (by walk_at "vis") rfl | exact ev_var 14 rfl (by walk_at "vis") rfl | exact ev_var 15 rfl (by walk_at "vis") rfl)

local macro_rules | `(tactic| walk_at "ev") => `(tactic| first
  | exact ev_int | exact ev_bl | exact ev_str | exact ev_non
  | walk_at "var"
  | (refine ev_neg ?_ <;> walk_at "ev")
  | (refine ev_add ?_ ?_ <;> walk_at "ev")
  | (refine ev_sub ?_ ?_ <;> walk_at "ev"))

local macro_rules | `(tactic| walk_at "blk") => `(tactic| (dsimp only; decide +kernel))
section
open Sg
variable {n : Nat} {weak strict : List (List Int)}
/-- the state ahead of the row i -/
def Setl (h : Asks n weak strict) (S : SSt) (i : Nat) : Prop :=
  ∃ (T : Nat → Nat → Int) (has : Nat → Bool) (bas : Nat → Nat) (B : Nat → Nat → Int) (s : Int),
    Like S.rows (n + 1) (weak.length + strict.length + n) T ∧ Stand (askOf h) T S.scale has bas B s ∧ S.basis.length = i ∧
    (∀ k, k < i → has k = decide (0 ≤ S.basis.getD k 0)) ∧ (∀ k, k < i → has k = true → bas k = (S.basis.getD k 0).toNat) ∧
    (∀ k, i ≤ k → has k = false) ∧ ∀ k, k < i → has k = false → ∀ j, j < weak.length + strict.length → T k j = 0
theorem getD_snoc {l : List Int} {x : Int} {k : Nat} : (l ++ [x]).getD k 0 = if k < l.length then l.getD k 0 else if k = l.length then x else 0 := by
  by_cases h : k < l.length
  · rw [if_pos h, getD_append_l _ _ _ h]
  · rw [if_neg h, getD_append_r _ _ _ (by omega)]
    by_cases e : k = l.length
    · subst e; rw [if_pos rfl, Nat.sub_self]; rfl
    · rw [if_neg e]
      obtain ⟨z, hz⟩ : ∃ z, k - l.length = z + 1 := ⟨k - l.length - 1, by omega⟩
      rw [hz]; simp
theorem setl_first (h : Asks n weak strict) : Setl h (settleTo (weak.length + strict.length) (rows0 n weak strict) 0) 0 :=
  ⟨_, _, _, _, _, like_first h, Stand.first, rfl, fun k hk => by omega, fun k hk => by omega, fun _ _ => rfl, fun k hk => by omega⟩
theorem setl_step (h : Asks n weak strict) {S : SSt} {i : Nat} (hi : i < n) (hs : Setl h S i) : Setl h (settleStep (weak.length + strict.length) S i) (i + 1) := by
  obtain ⟨T, has, bas, B, s, lk, st, bl, h1, h2, h3, h4⟩ := hs
  have hin : i < n + 1 := by omega
  unfold settleStep
  have sp := firstNZ_spec (S.rows.getD i []) (weak.length + strict.length) 0
  have lt := firstNZ_lt (S.rows.getD i []) (weak.length + strict.length) 0
  generalize firstNZ (S.rows.getD i []) 0 (weak.length + strict.length) = qi at *
  split
  · rename_i h0
    obtain ⟨q, rfl⟩ : ∃ q : Nat, qi = q := ⟨qi.toNat, (Int.toNat_of_nonneg h0).symm⟩
    rw [Int.toNat_natCast] at *
    have hq : q < weak.length + strict.length := by omega
    have hqC : q < weak.length + strict.length + n := by omega
    have hne : T i q ≠ 0 := by rw [← lk.2.2 i hin q hqC]; exact sp.2 h0
    have l1 := like_turned lk hin hqC
    have len1 := turned_len S.rows i q
    generalize K8.turned S.rows i q = rows1 at *
    obtain ⟨T1, B1, s1, e1, st1, pos1, oth⟩ : ∃ (T1 : Nat → Nat → Int) (B1 : Nat → Nat → Int) (s1 : Int), Like rows1 (n + 1) (weak.length + strict.length + n) T1 ∧
        Stand (askOf h) T1 S.scale has bas B1 s1 ∧ 0 < T1 i q ∧ ∀ k, k ≠ i → ∀ j, T1 k j = T k j := by
      by_cases hneg : T i q < 0
      · rw [if_pos hneg] at l1
        refine ⟨_, _, _, l1, st.flip (p := i) hi (h3 i (Nat.le_refl _)), ?_, fun k hk j => ?_⟩
        · show 0 < if i = i then - T i q else T i q
          rw [if_pos rfl]; omega
        · show (if k = i then - T i j else T k j) = T k j
          rw [if_neg hk]
      · rw [if_neg hneg] at l1
        exact ⟨T, B, s, l1, st, by omega, fun _ _ _ => rfl⟩
    have l2 := like_piv (d := S.scale) e1 hin hqC
    rw [len1] at l2
    have st2 := st1.pivot (p := i) (q := q) hi hq pos1
    have sc : (rows1.getD i []).getD q 0 = T1 i q := e1.2.2 i hin q hqC
    rw [sc]
    refine ⟨_, _, _, _, _, l2, st2, by simp [bl], fun k hk => ?_, fun k hk hh => ?_, fun k hk => ?_, fun k hk hh j hj => ?_⟩
    · show (if k = i then true else has k) = decide (0 ≤ (S.basis ++ [(q : Int)]).getD k 0)
      rw [getD_snoc, bl]
      by_cases e : k = i
      · subst e; rw [if_pos rfl, if_neg (by omega), if_pos rfl]; simp
      · rw [if_neg e, if_pos (by omega)]; exact h1 k (by omega)
    · show (if k = i then q else bas k) = ((S.basis ++ [(q : Int)]).getD k 0).toNat
      rw [getD_snoc, bl]
      by_cases e : k = i
      · subst e; rw [if_pos rfl, if_neg (by omega), if_pos rfl, Int.toNat_natCast]
      · rw [if_neg e, if_pos (by omega)]
        have hh' : (if k = i then true else has k) = true := hh
        rw [if_neg e] at hh'
        exact h2 k (by omega) hh'
    · show (if k = i then true else has k) = false
      rw [if_neg (by omega)]; exact h3 k (by omega)
    · have hh' : (if k = i then true else has k) = false := hh
      by_cases e : k = i
      · rw [if_pos e] at hh'; cases hh'
      · rw [if_neg e] at hh'
        unfold piv
        rw [if_neg e, oth k e j, oth k e q, h4 k (by omega) hh' j hj, h4 k (by omega) hh' q hq]
        simp
  · rename_i h0
    refine ⟨T, has, bas, B, s, lk, st, by simp [bl], fun k hk => ?_, fun k hk hh => ?_, fun k hk => h3 k (by omega), fun k hk hh j hj => ?_⟩
    · show has k = decide (0 ≤ (S.basis ++ [qi]).getD k 0)
      rw [getD_snoc, bl]
      by_cases e : k = i
      · subst e; rw [if_neg (by omega), if_pos rfl, h3 k (Nat.le_refl _)]; simp; omega
      · rw [if_pos (by omega)]; exact h1 k (by omega)
    · show bas k = ((S.basis ++ [qi]).getD k 0).toNat
      rw [getD_snoc, bl]
      by_cases e : k = i
      · subst e; rw [h3 k (Nat.le_refl _)] at hh; cases hh
      · rw [if_pos (by omega)]; exact h2 k (by omega) hh
    · by_cases e : k = i
      · subst e
        rw [← lk.2.2 k hin j (by omega)]; exact sp.1 (by omega) j (by omega) (by omega)
      · exact h4 k (by omega) hh j hj
theorem setl_all (h : Asks n weak strict) : ∀ i, i ≤ n → Setl h (settleTo (weak.length + strict.length) (rows0 n weak strict) i) i
  | 0, _ => setl_first h
  | i + 1, hi => by rw [settleTo_succ]; exact setl_step h (by omega) (setl_all h i (by omega))
theorem settled_ok (h : Asks n weak strict) (i : Nat) (hi : i ≤ n) : SOk (settleTo (weak.length + strict.length) (rows0 n weak strict) i) n (weak.length + strict.length + n) := by
  obtain ⟨T, has, bas, B, s, lk, st, _⟩ := setl_all h i hi
  exact ⟨rect_of h (fun i => i) (fun i hi => hi) (Nat.le_refl _) lk st, lk.1, st.inv.pos, sm_of h st⟩

/-! the tableau of the kept rows -/
def kf (ks : List Nat) (n i : Nat) : Nat := if i < ks.length then ks.getD i 0 else n
structure Along (h : Asks n weak strict) (has : Nat → Bool) (st : List Nat) (t : Tab) (T : Nat → Nat → Int) (bas : Nat → Nat) : Prop where
  go : Going (askOf h) has st T t.scale bas
  like : Like t.rows (((List.range n).filter has).length + 1) (weak.length + strict.length + n) (fun i j => T (kf ((List.range n).filter has) n i) j)
  basis : t.basis = ((List.range n).filter has).map bas
theorem lexpos_of {f : Nat → Int} : ∀ {S : List Nat}, (∀ k ∈ S, 0 ≤ f k) → (∃ k ∈ S, 0 < f k) → LexPos f S
  | [], _, ⟨_, h, _⟩ => by simp at h
  | k :: ks, h0, ⟨j, hj, hp⟩ => by
    by_cases e : 0 < f k
    · exact Or.inl e
    · have := h0 k (by simp)
      refine Or.inr ⟨by omega, lexpos_of (fun k hk => h0 k (by simp [hk])) ?_⟩
      rcases List.mem_cons.mp hj with e2 | e2
      · subst e2; omega
      · exact ⟨j, e2, hp⟩
theorem kf_lt {has : Nat → Bool} {i : Nat} (h : i < ((List.range n).filter has).length) :
    kf ((List.range n).filter has) n i < n ∧ has (kf ((List.range n).filter has) n i) = true := by
  unfold kf; rw [if_pos h]
  have := getD_mem ((List.range n).filter has) 0 h
  simpa using this
theorem kf_end {ks : List Nat} {n : Nat} : kf ks n ks.length = n := by unfold kf; rw [if_neg (by omega)]
theorem kf_onto {has : Nat → Bool} {k : Nat} (h : k < n) (hk : has k = true) : ∃ i, i < ((List.range n).filter has).length ∧ kf ((List.range n).filter has) n i = k := by
  have : k ∈ (List.range n).filter has := by simp [h, hk]
  obtain ⟨i, hi, e⟩ := mem_getD 0 this
  exact ⟨i, hi, by unfold kf; rw [if_pos hi]; exact e⟩
theorem kf_inj {has : Nat → Bool} {i j : Nat} (hi : i < ((List.range n).filter has).length) (hj : j < ((List.range n).filter has).length)
    (e : kf ((List.range n).filter has) n i = kf ((List.range n).filter has) n j) : i = j := by
  have nd : ((List.range n).filter has).Nodup := List.nodup_range.filter _
  unfold kf at e
  rw [if_pos hi, if_pos hj, List.getD_eq_getElem?_getD, List.getD_eq_getElem?_getD, List.getElem?_eq_getElem hi, List.getElem?_eq_getElem hj] at e
  exact (List.getElem_inj nd).mp e
theorem along_first (h : Asks n weak strict) : ∃ has T bas, Along h has (tabOf (settleTo (weak.length + strict.length) (rows0 n weak strict) n) n).basis (tabOf (settleTo (weak.length + strict.length) (rows0 n weak strict) n) n) T bas := by
  obtain ⟨T, has, bas, B, s, lk, st, bl, h1, h2, h3, h4⟩ := setl_all h n (Nat.le_refl _)
  generalize settleTo (weak.length + strict.length) (rows0 n weak strict) n = S at *
  have ek : keptL S.basis n = (List.range n).filter has := by
    unfold keptL
    refine List.filter_congr (fun k hk => ?_)
    rw [h1 k (by simpa using hk)]
  have eb : (tabOf S n).basis = ((List.range n).filter has).map bas := by
    unfold tabOf
    rw [ek]
    refine List.map_congr_left (fun k hk => ?_)
    have := List.mem_filter.mp hk
    exact (h2 k (by simpa using this.1) this.2).symm
  have vo : Void (askOf h) T has := fun i hi hh j hj => h4 i hi hh j hj
  refine ⟨has, T, bas, ⟨⟨⟨B, s, st⟩, vo, ⟨T, S.scale, bas, B, s, st, vo, eb⟩, fun i hi hh => ?_⟩, ?_, eb⟩⟩
  · have hiN : i < (askOf h).N := show i < n + 1 from by have : i < n := hi; omega
    refine lexpos_of (fun k hk => ?_) ⟨bas i, ?_, ?_⟩
    · rw [eb] at hk
      obtain ⟨k', hk', rfl⟩ := List.mem_map.mp hk
      have := List.mem_filter.mp hk'
      rw [st.own hiN (show k' < n from by simpa using this.1) this.2]
      have := st.inv.pos
      split <;> omega
    · rw [eb]; exact List.mem_map.mpr ⟨i, by simp [hh]; exact hi, rfl⟩
    · rw [st.own hiN hi hh, if_pos rfl]; exact st.inv.pos
  · unfold tabOf
    rw [ek]
    have hrow : ∀ i, i < ((List.range n).filter has).length + 1 → (((List.range n).filter has).map (fun i => S.rows.getD i []) ++ [S.rows.getD n []]).getD i [] = S.rows.getD (kf ((List.range n).filter has) n i) [] := by
      intro i hi
      by_cases e : i < ((List.range n).filter has).length
      · rw [getD_append_l _ _ _ (by rw [List.length_map]; exact e), getD_map_lt _ _ 0 _ e]; unfold kf; rw [if_pos e]
      · have e2 : i = ((List.range n).filter has).length := by omega
        subst e2
        rw [getD_append_r _ _ _ (by rw [List.length_map]; omega), List.length_map, Nat.sub_self, kf_end]; rfl
    have hlt : ∀ i, i < ((List.range n).filter has).length + 1 → kf ((List.range n).filter has) n i < n + 1 := by
      intro i hi
      by_cases e : i < ((List.range n).filter has).length
      · have := (kf_lt e).1; omega
      · have e2 : i = ((List.range n).filter has).length := by omega
        subst e2; rw [kf_end]; omega
    refine ⟨by rw [List.length_append, List.length_map]; rfl, fun i hi => ?_, fun i hi j hj => ?_⟩
    · rw [hrow i hi]; exact lk.2.1 _ (hlt i hi)
    · rw [hrow i hi]; exact lk.2.2 _ (hlt i hi) j hj
end

end K8

set_option Elab.async false
set_option maxRecDepth 100000
set_option exponentiation.threshold 2000
set_option linter.all false
set_option maxHeartbeats 1000000
namespace K8
open PySem L2 Dl
local macro_rules | `(tactic| walk_at "vis") => `(tactic| first | exact Or.inl rfl | exact Or.inr (Or.inl rfl) | exact Or.inr (Or.inr rfl))
local macro_rules | `(tactic| walk_at "sto") => `(tactic| first | exact ⟨rfl, Or.inl rfl, Or.inl rfl⟩ | exact ⟨rfl, Or.inl rfl, Or.inr rfl⟩ | exact ⟨rfl, Or.inr rfl, Or.inl rfl⟩)
local macro_rules | `(tactic| walk_at "var") => `(tactic| first
  | exact ev_var 0 rfl (by walk_at "vis") rfl | exact ev_var 1 rfl (by walk_at "vis") rfl | exact ev_var 2 rfl (by walk_at "vis") rfl | exact ev_var 3 rfl (by walk_at "vis") rfl
  | exact ev_var 4 rfl (by walk_at "vis") rfl | exact ev_var 5 rfl (by walk_at "vis") rfl | exact ev_var 6 rfl (by walk_at "vis") rfl | exact ev_var 7 rfl (by walk_at "vis") rfl
  | exact ev_var 8 rfl (by walk_at "vis") rfl | exact ev_var 9 rfl (by walk_at "vis") rfl | exact ev_var 10 rfl (by walk_at "vis") rfl | exact ev_var 11 rfl (by walk_at "vis") rfl
  | exact ev_var 12 rfl (by walk_at "vis") rfl | exact ev_var 13 rfl (by walk_at "vis") rfl | exact ev_var 14 rfl (by walk_at "vis") rfl | exact ev_var 15 rfl (by walk_at "vis") rfl)

local macro_rules | `(tactic| walk_at "ev") => `(tactic| first
  | exact ev_int | exact ev_bl | exact ev_str | exact ev_non
  | walk_at "var"
  | (refine ev_neg ?_ <;> walk_at "ev")
  | (refine ev_add ?_ ?_ <;> walk_at "ev")
  | (refine ev_sub ?_ ?_ <;> walk_at "ev"))

local macro_rules | `(tactic| walk_at "blk") => `(tactic| (dsimp only; decide +kernel))
section
open Sg
variable {n : Nat} {weak strict : List (List Int)}
theorem soonerL_eq (x y : List Int) (q : Nat) (f g : Nat → Int) : ∀ st : List Nat, (∀ k ∈ st, x.getD k 0 = f k ∧ y.getD k 0 = g k) → soonerL x y q st = sooner f g (x.getD q 0) (y.getD q 0) st
  | [], _ => rfl
  | k :: ks, h => by
    have ih := soonerL_eq x y q f g ks (fun k hk => h k (by simp [hk]))
    have := h k (by simp)
    simp only [soonerL, sooner, this.1, this.2, ih]
theorem sooner_self (f : Nat → Int) (fq : Int) : ∀ S : List Nat, sooner f f fq fq S = false
  | [] => rfl
  | k :: ks => by simp only [sooner, if_true]; exact sooner_self f fq ks
theorem leave_spec {rows : List (List Int)} {N C : Nat} {F : Nat → Nat → Int} (lk : Like rows N C F) {q : Nat} (hq : q < C) {st : List Nat} (hst : ∀ k ∈ st, k < C) : ∀ c, c ≤ N →
    (leaveL rows q st c < 0 → ∀ i, i < c → F i q ≤ 0) ∧
    (∀ p : Nat, leaveL rows q st c = p → p < c ∧ 0 < F p q ∧ ∀ i, i < c → 0 < F i q → sooner (F i) (F p) (F i q) (F p q) st = false)
  | 0, _ => ⟨fun _ i hi => by omega, fun p hp => by unfold leaveL at hp; rw [List.range_zero, List.foldl_nil] at hp; omega⟩
  | c + 1, hc => by
    have ih := leave_spec lk hq hst c (by omega)
    have lt := leaveL_lt rows q st c
    have e : leaveL rows q st (c + 1) = leaveStep rows q st (leaveL rows q st c) c := by
      unfold leaveL; rw [List.range_succ, List.foldl_append, List.foldl_cons, List.foldl_nil]
    have ent : ∀ i, i < N → ∀ j, j < C → (rows.getD i []).getD j 0 = F i j := lk.2.2
    have so : ∀ i j, i < N → j < N → soonerL (rows.getD i []) (rows.getD j []) q st = sooner (F i) (F j) (F i q) (F j q) st := by
      intro i j hi hj
      rw [soonerL_eq _ _ q (F i) (F j) st (fun k hk => ⟨ent i hi k (hst k hk), ent j hj k (hst k hk)⟩), ent i hi q hq, ent j hj q hq]
    rw [e]
    unfold leaveStep
    rw [ent c (by omega) q hq]
    generalize leaveL rows q st c = fo at *
    split
    · rename_i hcond
      simp only [Bool.and_eq_true, Bool.or_eq_true, decide_eq_true_eq] at hcond
      refine ⟨fun h => by omega, fun p hp => ?_⟩
      have hpc : p = c := by omega
      subst hpc
      refine ⟨by omega, hcond.1, fun i hi hip => ?_⟩
      by_cases e2 : i = p
      · subst e2; exact sooner_self _ _ _
      · rcases hcond.2 with h2 | h2
        · have := ih.1 h2 i (by omega); omega
        · by_cases h3 : fo < 0
          · have := ih.1 h3 i (by omega); omega
          · obtain ⟨f, rfl⟩ : ∃ f : Nat, fo = f := ⟨fo.toNat, by omega⟩
            have ihf := ih.2 f rfl
            rw [Int.toNat_natCast, so p f (by omega) (by omega)] at h2
            cases hs : sooner (F i) (F p) (F i q) (F p q) st with
            | false => rfl
            | true =>
              have := sooner_trans hip hcond.1 ihf.2.1 hs h2
              rw [ihf.2.2 i (by omega) hip] at this; cases this
    · rename_i hcond
      simp only [Bool.and_eq_true, Bool.or_eq_true, decide_eq_true_eq] at hcond
      refine ⟨fun h i hi => ?_, fun p hp => ?_⟩
      · by_cases e2 : i = c
        · subst e2
          by_cases h4 : 0 < F i q
          · exact absurd ⟨h4, Or.inl h⟩ hcond
          · omega
        · exact ih.1 h i (by omega)
      · have ihp := ih.2 p hp
        refine ⟨by omega, ihp.2.1, fun i hi hip => ?_⟩
        by_cases e2 : i = c
        · subst e2
          cases hs : sooner (F i) (F p) (F i q) (F p q) st with
          | false => rfl
          | true =>
            refine absurd ⟨hip, Or.inr ?_⟩ hcond
            rw [hp, Int.toNat_natCast, so i p (by omega) (by omega)]; exact hs
        · exact ihp.2.2 i (by omega) hip

theorem best_spec {goal : List Int} {m : Nat} {g : Nat → Int} (hl : m ≤ goal.length) (hg : ∀ j, j < m → goal.getD j 0 = g j) :
    (bestC goal m < 0 → ∀ j, j < m → g j ≤ 0) ∧ (∀ q : Nat, bestC goal m = q → q < m ∧ 0 < g q) := by
  unfold bestC
  split
  · rename_i h
    refine ⟨fun h0 => by omega, fun q hq => ?_⟩
    have hne : goal.take m ≠ [] := by intro e; rw [e] at h; exact absurd h (by decide)
    have hm := maxZ_mem hne
    have e : goal.idxOf (maxZ (goal.take m)) = (goal.take m).idxOf (maxZ (goal.take m)) := by
      have hap := List.idxOf_append (l₁ := goal.take m) (l₂ := goal.drop m) (a := maxZ (goal.take m))
      rw [List.take_append_drop, if_pos hm] at hap
      exact hap
    have lt : (goal.take m).idxOf (maxZ (goal.take m)) < (goal.take m).length := List.idxOf_lt_length_iff.mpr hm
    have hlt : (goal.take m).length = m := by rw [List.length_take]; omega
    have hq' : q = (goal.take m).idxOf (maxZ (goal.take m)) := by rw [e] at hq; exact (Int.ofNat.inj hq).symm
    have hqm : q < m := by omega
    refine ⟨hqm, ?_⟩
    have v := List.getElem_idxOf lt
    have v2 : (goal.take m).getD q 0 = maxZ (goal.take m) := by
      subst hq'
      rw [List.getD_eq_getElem?_getD, List.getElem?_eq_getElem lt]; exact v
    rw [← hg q hqm]
    have v3 : goal.getD q 0 = (goal.take m).getD q 0 := by
      rw [List.getD_eq_getElem?_getD, List.getD_eq_getElem?_getD, List.getElem?_take, if_pos hqm]
    rw [v3, v2]; exact h
  · rename_i h
    refine ⟨fun _ j hj => ?_, fun q hq => by omega⟩
    have hmem : goal.getD j 0 ∈ goal.take m := by
      have hlt : j < (goal.take m).length := by rw [List.length_take]; omega
      have := getD_mem (goal.take m) 0 hlt
      rwa [List.getD_eq_getElem?_getD, List.getElem?_take, if_pos hj, ← List.getD_eq_getElem?_getD] at this
    have := maxZ_ge hmem
    rw [← hg j hj]; omega

/-! dividing -/
theorem gcd_dvd : ∀ (l : List Int) (a : Int), (l.foldl (fun a x => ((Nat.gcd a.natAbs x.natAbs : Nat) : Int)) a) ∣ a ∧ ∀ x ∈ l, (l.foldl (fun a x => ((Nat.gcd a.natAbs x.natAbs : Nat) : Int)) a) ∣ x
  | [], a => ⟨Int.dvd_refl a, fun x hx => by simp at hx⟩
  | y :: l, a => by
    rw [List.foldl_cons]
    have ih := gcd_dvd l ((Nat.gcd a.natAbs y.natAbs : Nat) : Int)
    have d1 : ((Nat.gcd a.natAbs y.natAbs : Nat) : Int) ∣ a := Int.dvd_natAbs.mp (Int.natCast_dvd_natCast.mpr (Nat.gcd_dvd_left _ _))
    have d2 : ((Nat.gcd a.natAbs y.natAbs : Nat) : Int) ∣ y := Int.dvd_natAbs.mp (Int.natCast_dvd_natCast.mpr (Nat.gcd_dvd_right _ _))
    refine ⟨Int.dvd_trans ih.1 d1, fun x hx => ?_⟩
    rcases List.mem_cons.mp hx with e | e
    · subst e; exact Int.dvd_trans ih.1 d2
    · exact ih.2 x e
theorem gcd_nonneg : ∀ (l : List Int) (a : Int), 0 ≤ a → 0 ≤ l.foldl (fun a x => ((Nat.gcd a.natAbs x.natAbs : Nat) : Int)) a
  | [], _, h => h
  | y :: l, a, _ => by rw [List.foldl_cons]; exact gcd_nonneg l _ (by omega)
theorem byL_pos (l : List Int) : 0 < byL l := by
  have : 0 ≤ gcdL l := gcd_nonneg l 0 (by omega)
  unfold byL; split <;> omega
theorem divL_len (l : List Int) : (divL l).length = l.length := by unfold divL; rw [List.length_map]
theorem divL_at (l : List Int) (k : Nat) : (divL l).getD k 0 * byL l = l.getD k 0 := by
  by_cases h : k < l.length
  · unfold divL
    rw [getD_map_lt _ _ 0 _ h]
    refine Int.ediv_mul_cancel ?_
    unfold byL
    split
    · exact Int.one_dvd _
    · exact (gcd_dvd l 0).2 _ (getD_mem _ _ h)
  · rw [List.getD_eq_getElem?_getD, List.getD_eq_getElem?_getD, List.getElem?_eq_none (by rw [divL_len]; omega), List.getElem?_eq_none (by omega)]; simp
end

end K8

set_option Elab.async false
set_option maxRecDepth 100000
set_option exponentiation.threshold 2000
set_option linter.all false
set_option maxHeartbeats 1000000
namespace K8
open PySem L2 Dl
local macro_rules | `(tactic| walk_at "vis") => `(tactic| first | exact Or.inl rfl | exact Or.inr (Or.inl rfl) | exact Or.inr (Or.inr rfl))
local macro_rules | `(tactic| walk_at "sto") => `(tactic| first | exact ⟨rfl, Or.inl rfl, Or.inl rfl⟩ | exact ⟨rfl, Or.inl rfl, Or.inr rfl⟩ | exact ⟨rfl, Or.inr rfl, Or.inl rfl⟩)
local macro_rules | `(tactic| walk_at "var") => `(tactic| first
  | exact ev_var 0 rfl (by walk_at "vis") rfl | exact ev_var 1 rfl (by walk_at "vis") rfl | exact ev_var 2 rfl (by walk_at "vis") rfl | exact ev_var 3 rfl (by walk_at "vis") rfl
  | exact ev_var 4 rfl (by walk_at "vis") rfl | exact ev_var 5 rfl (by walk_at "vis") rfl | exact ev_var 6 rfl (by walk_at "vis") rfl | exact ev_var 7 rfl (by walk_at "vis") rfl
  | exact ev_var 8 rfl (by walk_at "vis") rfl | exact ev_var 9 rfl (by walk_at "vis") rfl | exact ev_var 10 rfl (by walk_at "vis") rfl | exact ev_var 11 rfl (by walk_at "vis") rfl
  | exact ev_var 12 rfl (by walk_at "vis") rfl | exact ev_var 13 rfl (by walk_at "vis") rfl | exact ev_var 14 rfl (by walk_at "vis") rfl | exact ev_var 15 rfl (by walk_at "vis") rfl)

local macro_rules | `(tactic| walk_at "ev") => `(tactic| first
  | exact ev_int | exact ev_bl | exact ev_str | exact ev_non
  | walk_at "var"
  | (refine ev_neg ?_ <;> walk_at "ev")
  | (refine ev_add ?_ ?_ <;> walk_at "ev")
  | (refine ev_sub ?_ ?_ <;> walk_at "ev"))

local macro_rules | `(tactic| walk_at "blk") => `(tactic| (dsimp only; decide +kernel))
section
open Sg
variable {n : Nat} {weak strict : List (List Int)}
theorem sumTo_pos : ∀ {m : Nat} {g : Nat → Int}, 0 < sumTo m g → ∃ j, j < m ∧ 0 < g j
  | 0, g, h => by simp [Sg.sumTo] at h
  | m + 1, g, h => by
    simp only [Sg.sumTo] at h
    by_cases e : 0 < g m
    · exact ⟨m, by omega, e⟩
    · obtain ⟨j, hj, hp⟩ := sumTo_pos (m := m) (g := g) (by omega)
      exact ⟨j, by omega, hp⟩
theorem sumTo_nonneg : ∀ {m : Nat} {g : Nat → Int}, (∀ j, j < m → 0 ≤ g j) → 0 ≤ sumTo m g
  | 0, g, _ => by simp [Sg.sumTo]
  | m + 1, g, h => by
    simp only [Sg.sumTo]
    have := sumTo_nonneg (m := m) (g := g) (fun j hj => h j (by omega))
    have := h m (by omega)
    omega
theorem sumTo_set {m : Nat} {l : List Int} {b : Nat} {x : Int} (A : Nat → Int) (hl : l.length = m) (hb : b < m) :
    sumTo m (fun j => (l.set b x).getD j 0 * A j) = sumTo m (fun j => l.getD j 0 * A j) + (x - l.getD b 0) * A b := by
  have : sumTo m (fun j => (l.set b x).getD j 0 * A j) = sumTo m (fun j => l.getD j 0 * A j + (if j = b then (x - l.getD b 0) * A b else 0)) := by
    refine sumTo_congr (fun j hj => ?_)
    rw [getD_set _ _ _ _ (by omega)]
    by_cases e : j = b
    · subst e; rw [if_pos rfl, if_pos rfl]; grind
    · rw [if_neg e, if_neg e]; omega
  have e2 : sumTo m (fun j => if j = b then (x - l.getD b 0) * A b else 0) = (x - l.getD b 0) * A b := by
    rw [sumTo_one b hb (fun j _ hj => by rw [if_neg hj]), if_pos rfl]
  rw [this, sumTo_add, e2]
theorem sum_filter (has : Nat → Bool) (g : Nat → Int) : ∀ n, sumTo n (fun i => if has i = true then g i else 0) = sumTo ((List.range n).filter has).length (fun i => g (((List.range n).filter has).getD i 0))
  | 0 => rfl
  | n + 1 => by
    simp only [Sg.sumTo]
    rw [sum_filter has g n, List.range_succ, List.filter_append]
    by_cases h : has n = true
    · have e : [n].filter has = [n] := by simp [h]
      rw [if_pos h, e, List.length_append]
      show _ = sumTo (_ + 1) _
      simp only [Sg.sumTo]
      congr 1
      · refine sumTo_congr (fun i hi => ?_)
        rw [getD_append_l _ _ _ hi]
      · rw [getD_append_r _ _ _ (Nat.le_refl _), Nat.sub_self]; rfl
    · have e : [n].filter has = [] := by simp [h]
      rw [if_neg h, e, List.append_nil]; omega
theorem weightsL_succ (rows : List (List Int)) (scale : Int) (basis : List Nat) (q m i : Nat) :
    weightsL rows scale basis q m (i + 1) = (weightsL rows scale basis q m i).set (basis.getD i 0) (-((rows.getD i []).getD q 0)) := by
  unfold weightsL; rw [List.range_succ, List.foldl_append, List.foldl_cons, List.foldl_nil]
theorem getD_rep0 (m j : Nat) : (List.replicate m (0 : Int)).getD j 0 = 0 := by
  rw [List.getD_eq_getElem?_getD, List.getElem?_replicate]; split <;> rfl
theorem weights_spec {rows : List (List Int)} {scale : Int} {basis : List Nat} {q m : Nat} (hq : q < m) (hb : ∀ i, i < basis.length → basis.getD i 0 < m ∧ basis.getD i 0 ≠ q)
    (inj : ∀ i j, i < basis.length → j < basis.length → basis.getD i 0 = basis.getD j 0 → i = j) (A : Nat → Int) : ∀ i, i ≤ basis.length →
    (∀ b, b ≠ q → (∀ i', i' < i → basis.getD i' 0 ≠ b) → (weightsL rows scale basis q m i).getD b 0 = 0) ∧
    sumTo m (fun j => (weightsL rows scale basis q m i).getD j 0 * A j) = scale * A q + sumTo i (fun i' => -((rows.getD i' []).getD q 0) * A (basis.getD i' 0)) ∧
    (0 ≤ scale → (∀ i', i' < i → (rows.getD i' []).getD q 0 ≤ 0) → ∀ j, 0 ≤ (weightsL rows scale basis q m i).getD j 0)
  | 0, _ => by
    have e : weightsL rows scale basis q m 0 = (List.replicate m 0).set q scale := rfl
    rw [e]
    refine ⟨fun b hbq _ => ?_, ?_, fun h0 _ j => ?_⟩
    · rw [getD_set _ _ _ _ (by simpa using hq), if_neg hbq, getD_rep0]
    · rw [sumTo_set A (by simp) hq, getD_rep0, sumTo_zero (fun j _ => by rw [getD_rep0]; simp)]
      simp [Sg.sumTo]
    · rw [getD_set _ _ _ _ (by simpa using hq)]
      split
      · exact h0
      · rw [getD_rep0]; omega
  | i + 1, hi => by
    obtain ⟨z, su, nn⟩ := weights_spec (rows := rows) (scale := scale) hq hb inj A i (by omega)
    have hl := weightsL_len rows scale basis q m i
    have hbi := hb i (by omega)
    rw [weightsL_succ]
    refine ⟨fun b hbq hne => ?_, ?_, fun h0 hle j => ?_⟩
    · rw [getD_set _ _ _ _ (by omega), if_neg (fun e => hne i (by omega) e.symm)]
      exact z b hbq (fun i' hi' => hne i' (by omega))
    · rw [sumTo_set A hl hbi.1, su, z _ hbi.2 (fun i' hi' e => by have := inj i' i (by omega) (by omega) e; omega)]
      simp only [Sg.sumTo, Int.sub_zero]; omega
    · rw [getD_set _ _ _ _ (by omega)]
      split
      · have := hle i (by omega); omega
      · exact nn h0 (fun i' hi' => hle i' (by omega)) j

/-! what an end says -/
def dotn (n : Nat) (w p : List Int) : Int := sumTo n (fun k => w.getD k 0 * p.getD k 0)
def Good (n : Nat) (weak strict : List (List Int)) : Res → Prop
  | .point p => p.length = n ∧ (∀ w ∈ weak, 0 ≤ dotn n w p) ∧ ∀ w ∈ strict, 0 < dotn n w p
  | .sum ws => ws.length = weak.length + strict.length ∧ (∀ j, 0 ≤ ws.getD j 0) ∧
      (∀ k, k < n → sumTo (weak.length + strict.length) (fun j => ws.getD j 0 * gv weak strict j k) = 0) ∧
      ∃ j, weak.length ≤ j ∧ j < weak.length + strict.length ∧ 0 < ws.getD j 0
theorem pos_div {x b : Int} (hb : 0 < b) (h : 0 < x * b) : 0 < x := by
  rw [Int.mul_comm] at h; exact pos_of_mul hb h
theorem nonneg_div {x b : Int} (hb : 0 < b) (h : 0 ≤ x * b) : 0 ≤ x := by
  rcases Int.lt_or_le x 0 with h1 | h1
  · have := Int.mul_pos (show 0 < -x by omega) hb
    have e : -x * b = -(x * b) := Int.neg_mul x b
    omega
  · exact h1
theorem good_sum {l : List Int} (hl : l.length = weak.length + strict.length) (h0 : ∀ j, 0 ≤ l.getD j 0)
    (hk : ∀ k, k < n → sumTo (weak.length + strict.length) (fun j => l.getD j 0 * gv weak strict j k) = 0)
    (hp : ∃ j, weak.length ≤ j ∧ j < weak.length + strict.length ∧ 0 < l.getD j 0) : Good n weak strict (.sum (divL l)) := by
  have b := byL_pos l
  refine ⟨by rw [divL_len]; exact hl, fun j => nonneg_div b (by rw [divL_at]; exact h0 j), fun k hk' => ?_, ?_⟩
  · have e := hk k hk'
    have : sumTo (weak.length + strict.length) (fun j => l.getD j 0 * gv weak strict j k) = byL l * sumTo (weak.length + strict.length) (fun j => (divL l).getD j 0 * gv weak strict j k) := by
      rw [← sumTo_mul]
      refine sumTo_congr (fun j _ => ?_)
      rw [← divL_at l j]; grind
    rw [this] at e
    exact zero_of_mul b e
  · obtain ⟨j, h1, h2, h3⟩ := hp
    exact ⟨j, h1, h2, pos_div b (by rw [divL_at]; exact h3)⟩
theorem good_point {l : List Int} (hl : l.length = n) (hw : ∀ j, j < weak.length → 0 ≤ sumTo n (fun k => gv weak strict j k * l.getD k 0))
    (hs : ∀ j, weak.length ≤ j → j < weak.length + strict.length → 0 < sumTo n (fun k => gv weak strict j k * l.getD k 0)) : Good n weak strict (.point (divL l)) := by
  have b := byL_pos l
  have e : ∀ w : List Int, dotn n w (divL l) * byL l = sumTo n (fun k => w.getD k 0 * l.getD k 0) := by
    intro w
    unfold dotn
    rw [Int.mul_comm, ← sumTo_mul]
    refine sumTo_congr (fun k _ => ?_)
    rw [← divL_at l k]; grind
  refine ⟨by rw [divL_len]; exact hl, fun w hw' => nonneg_div b ?_, fun w hw' => pos_div b ?_⟩
  · rw [e]
    obtain ⟨j, hj, rfl⟩ := mem_getD [] hw'
    have := hw j hj
    unfold gv at this
    rwa [getD_append_l _ _ _ hj] at this
  · rw [e]
    obtain ⟨j, hj, rfl⟩ := mem_getD [] hw'
    have := hs (weak.length + j) (by omega) (by omega)
    unfold gv at this
    rwa [getD_append_r _ _ _ (by omega), Nat.add_sub_cancel_left] at this
end

end K8

set_option Elab.async false
set_option maxRecDepth 100000
set_option exponentiation.threshold 2000
set_option linter.all false
set_option maxHeartbeats 1000000
namespace K8
open PySem L2 Dl
local macro_rules | `(tactic| walk_at "vis") => `(tactic| first | exact Or.inl rfl | exact Or.inr (Or.inl rfl) | exact Or.inr (Or.inr rfl))
local macro_rules | `(tactic| walk_at "sto") => `(tactic| first | exact ⟨rfl, Or.inl rfl, Or.inl rfl⟩ | exact ⟨rfl, Or.inl rfl, Or.inr rfl⟩ | exact ⟨rfl, Or.inr rfl, Or.inl rfl⟩)
local macro_rules | `(tactic| walk_at "var") => `(tactic| first
  | exact ev_var 0 rfl (by walk_at "vis") rfl | exact ev_var 1 rfl (by walk_at "vis") rfl | exact ev_var 2 rfl (by walk_at "vis") rfl | exact ev_var 3 rfl (by walk_at "vis") rfl
  | exact ev_var 4 rfl (by walk_at "vis") rfl | exact ev_var 5 rfl (by walk_at "vis") rfl | exact ev_var 6 rfl (by walk_at "vis") rfl | exact ev_var 7 rfl (by walk_at "vis") rfl
  | exact ev_var 8 rfl (by walk_at "vis") rfl | exact ev_var 9 rfl (by walk_at "vis") rfl | exact ev_var 10 rfl (by walk_at "vis") rfl | exact ev_var 11 rfl (by walk_at "vis") rfl
  | exact ev_var 12 rfl (by walk_at "vis") rfl | exact ev_var 13 rfl (by walk_at "vis") rfl | exact ev_var 14 rfl (by walk_at "vis") rfl | exact ev_var 15 rfl (by walk_at "vis") rfl)

local macro_rules | `(tactic| walk_at "ev") => `(tactic| first
  | exact ev_int | exact ev_bl | exact ev_str | exact ev_non
  | walk_at "var"
  | (refine ev_neg ?_ <;> walk_at "ev")
  | (refine ev_add ?_ ?_ <;> walk_at "ev")
  | (refine ev_sub ?_ ?_ <;> walk_at "ev"))

local macro_rules | `(tactic| walk_at "blk") => `(tactic| (dsimp only; decide +kernel))
section
open Sg
variable {n : Nat} {weak strict : List (List Int)} {h : Asks n weak strict} {has : Nat → Bool} {st : List Nat} {t : Tab} {T : Nat → Nat → Int} {bas : Nat → Nat}
theorem filt_len (has : Nat → Bool) (n : Nat) : ((List.range n).filter has).length ≤ n := by
  have := List.length_filter_le has (List.range n)
  rwa [List.length_range] at this
theorem kf_le {i : Nat} (hi : i < ((List.range n).filter has).length + 1) : kf ((List.range n).filter has) n i < n + 1 := by
  by_cases e : i < ((List.range n).filter has).length
  · have := (kf_lt e).1; omega
  · have e2 : i = ((List.range n).filter has).length := by omega
    subst e2; rw [kf_end]; omega
theorem Along.blen (A : Along h has st t T bas) : t.basis.length = ((List.range n).filter has).length := by rw [A.basis, List.length_map]
theorem Along.bat (A : Along h has st t T bas) {i : Nat} (hi : i < t.basis.length) : t.basis.getD i 0 = bas (kf ((List.range n).filter has) n i) := by
  have hi2 := hi; rw [A.blen] at hi2
  rw [A.basis, getD_map_lt _ _ 0 _ hi2]; unfold kf; rw [if_pos hi2]
theorem Along.ok (A : Along h has st t T bas) : TabOk t (weak.length + strict.length) (weak.length + strict.length + n) := by
  obtain ⟨B, s, S⟩ := A.go.st
  refine ⟨rect_of h _ (fun i hi => kf_le hi) (by have := filt_len has n; omega) A.like S, by rw [A.like.1, A.blen], S.inv.pos, sm_of h S, fun b hb => ?_, by omega⟩
  rw [A.basis] at hb
  obtain ⟨k, hk, rfl⟩ := List.mem_map.mp hb
  have := List.mem_filter.mp hk
  exact (S.kept k (show k < n from by simpa using this.1) this.2).1
theorem Along.goal_at (A : Along h has st t T bas) {j : Nat} (hj : j < weak.length + strict.length + n) : t.goal.getD j 0 = T n j := by
  unfold Tab.goal
  rw [A.blen]
  have : _ = T (kf ((List.range n).filter has) n ((List.range n).filter has).length) j := A.like.2.2 _ (Nat.lt_succ_self _) j hj
  rwa [kf_end] at this
theorem Along.goal_len (A : Along h has st t T bas) : t.goal.length = weak.length + strict.length + n := by
  unfold Tab.goal
  rw [A.blen]
  exact A.like.2.1 _ (Nat.lt_succ_self _)
theorem Along.point (A : Along h has st t T bas) (hb : ∀ j, j < weak.length + strict.length → T n j ≤ 0) :
    Good n weak strict (.point (divL ((t.goal.drop (weak.length + strict.length)).map (- ·)))) := by
  obtain ⟨B, s, S⟩ := A.go.st
  have gl := A.goal_len
  have hv : ∀ j, j < weak.length + strict.length → sumTo n (fun k => gv weak strict j k * ((t.goal.drop (weak.length + strict.length)).map (- ·)).getD k 0) = t.scale * (askOf h).c j - T n j := by
    intro j hj
    have e := S.goal_row (show j < (askOf h).m from hj)
    have e2 : sumTo n (fun k => gv weak strict j k * ((t.goal.drop (weak.length + strict.length)).map (- ·)).getD k 0) = (-1) * sumTo n (fun k => gv weak strict j k * T n (weak.length + strict.length + k)) := by
      rw [← sumTo_mul]
      refine sumTo_congr (fun k hk => ?_)
      rw [getD_map_lt _ _ 0 _ (by rw [List.length_drop]; omega)]
      have : (t.goal.drop (weak.length + strict.length)).getD k 0 = t.goal.getD (weak.length + strict.length + k) 0 := by
        rw [List.getD_eq_getElem?_getD, List.getD_eq_getElem?_getD, List.getElem?_drop]
      rw [this, A.goal_at (by omega)]; grind
    rw [e2]
    have e3 : T n j = sumTo n (fun k => gv weak strict j k * T n (weak.length + strict.length + k)) + t.scale * (askOf h).c j := e
    omega
  have pos := S.inv.pos
  refine good_point (by rw [List.length_map, List.length_drop]; omega) (fun j hj => ?_) (fun j h1 h2 => ?_)
  · rw [hv j (by omega)]
    have := hb j (by omega)
    have : (askOf h).c j = 0 := by show (if j < weak.length then (0 : Int) else 1) = 0; rw [if_pos hj]
    rw [this]; omega
  · rw [hv j h2]
    have := hb j h2
    have : (askOf h).c j = 1 := by show (if j < weak.length then (0 : Int) else 1) = 1; rw [if_neg (by omega)]
    rw [this]; omega
theorem Along.sum (A : Along h has st t T bas) {q : Nat} (hq : q < weak.length + strict.length) (hg : 0 < T n q)
    (hl : ∀ i, i < t.basis.length → T (kf ((List.range n).filter has) n i) q ≤ 0) : Good n weak strict (.sum (divL (weightsL t.rows t.scale t.basis q (weak.length + strict.length) t.basis.length))) := by
  obtain ⟨B, s, S⟩ := A.go.st
  have pos := S.inv.pos
  have bl := A.blen
  have hk : ∀ i, i < t.basis.length → kf ((List.range n).filter has) n i < n ∧ has (kf ((List.range n).filter has) n i) = true := fun i hi => kf_lt (by rw [← bl]; exact hi)
  have own : ∀ {i k : Nat}, i < n + 1 → k < n → has k = true → T i (bas k) = if i = k then t.scale else 0 := fun hi hk hh => S.own hi hk hh
  have hb : ∀ i, i < t.basis.length → t.basis.getD i 0 < weak.length + strict.length ∧ t.basis.getD i 0 ≠ q := by
    intro i hi
    rw [A.bat hi]
    have ⟨k1, k2⟩ := hk i hi
    refine ⟨(S.kept _ k1 k2).1, fun e => ?_⟩
    have := own (Nat.lt_succ_self n) k1 k2
    rw [e, if_neg (by omega)] at this
    omega
  have inj : ∀ i j, i < t.basis.length → j < t.basis.length → t.basis.getD i 0 = t.basis.getD j 0 → i = j := by
    intro i j hi hj e
    rw [A.bat hi, A.bat hj] at e
    have ⟨i1, i2⟩ := hk i hi
    have ⟨j1, j2⟩ := hk j hj
    have e1 := own (show kf ((List.range n).filter has) n i < n + 1 by omega) i1 i2
    have e2 := own (show kf ((List.range n).filter has) n i < n + 1 by omega) j1 j2
    rw [if_pos rfl] at e1
    rw [← e, e1] at e2
    by_cases e3 : kf ((List.range n).filter has) n i = kf ((List.range n).filter has) n j
    · exact kf_inj (by omega) (by omega) e3
    · rw [if_neg e3] at e2; omega
  have rt : ∀ i, i < t.basis.length → (t.rows.getD i []).getD q 0 = T (kf ((List.range n).filter has) n i) q := fun i hi => A.like.2.2 i (by omega) q (by omega)
  have tot : ∀ k, k < n + 1 → sumTo (weak.length + strict.length) (fun j => (weightsL t.rows t.scale t.basis q (weak.length + strict.length) t.basis.length).getD j 0 * (askOf h).A j k) = if k = n then T n q else 0 := by
    intro k hkn
    rw [(weights_spec (rows := t.rows) (scale := t.scale) hq hb inj (fun j => (askOf h).A j k) t.basis.length (Nat.le_refl _)).2.1]
    have r := ray S A.go.vo (show q < (askOf h).m from hq) (show k < (askOf h).N from hkn)
    have r2 : t.scale * (askOf h).A q k = sumTo n (fun i => if has i = true then T i q * (askOf h).A (bas i) k else 0) + (if k = n then T n q else 0) := r
    rw [r2, sum_filter, ← bl]
    have e : sumTo t.basis.length (fun i => -((t.rows.getD i []).getD q 0) * (askOf h).A (t.basis.getD i 0) k) = (-1) * sumTo t.basis.length (fun i => T (((List.range n).filter has).getD i 0) q * (askOf h).A (bas (((List.range n).filter has).getD i 0)) k) := by
      rw [← sumTo_mul]
      refine sumTo_congr (fun i hi => ?_)
      rw [rt i hi, A.bat hi]
      have : kf ((List.range n).filter has) n i = ((List.range n).filter has).getD i 0 := by unfold kf; rw [if_pos (by omega)]
      rw [this]; grind
    rw [e]; omega
  have nn := (weights_spec (rows := t.rows) (scale := t.scale) hq hb inj (fun _ => 0) t.basis.length (Nat.le_refl _)).2.2 (by omega) (fun i hi => by rw [rt i hi]; exact hl i hi)
  refine good_sum (weightsL_len _ _ _ _ _ _) nn (fun k hk' => ?_) ?_
  · have := tot k (by omega)
    rw [if_neg (by omega)] at this
    refine Eq.trans (sumTo_congr (fun j hj => ?_)) this
    rw [(askOf h).A_given (show j < (askOf h).m from hj) (show k < (askOf h).n from hk')]; rfl
  · have := tot n (by omega)
    rw [if_pos rfl] at this
    obtain ⟨j, hj, hp⟩ := sumTo_pos (by rw [this]; exact hg)
    have e : (askOf h).A j n = if j < weak.length then 0 else 1 := (askOf h).A_goal (show j < (askOf h).m from hj)
    rw [e] at hp
    by_cases e2 : j < weak.length
    · rw [if_pos e2] at hp; omega
    · rw [if_neg e2] at hp; exact ⟨j, by omega, hj, by omega⟩
theorem Along.next (A : Along h has st t T bas) {p q : Nat} (hp : p < t.basis.length) (hq : q < weak.length + strict.length) (hg : 0 < T n q)
    (hpq : 0 < T (kf ((List.range n).filter has) n p) q)
    (least : ∀ i, i < t.basis.length → 0 < T (kf ((List.range n).filter has) n i) q → sooner (T (kf ((List.range n).filter has) n i)) (T (kf ((List.range n).filter has) n p)) (T (kf ((List.range n).filter has) n i) q) (T (kf ((List.range n).filter has) n p) q) st = false) :
    ∃ T' bas', Along h has st (t.next p q) T' bas' ∧ left (askOf h) st T' (t.next p q).scale < left (askOf h) st T t.scale := by
  have bl := A.blen
  have hk := kf_lt (n := n) (has := has) (i := p) (by omega)
  have g := A.go.step (p := kf ((List.range n).filter has) n p) (q := q) hk.1 hk.2 hq hg hpq (fun i hi hh h0 => by
    obtain ⟨i', hi', rfl⟩ := kf_onto (show i < n from hi) hh
    exact least i' (by omega) h0)
  have hsc : (t.next p q).scale = T (kf ((List.range n).filter has) n p) q := A.like.2.2 p (by omega) q (by omega)
  refine ⟨_, _, ⟨by rw [hsc]; exact g.1, ?_, ?_⟩, by rw [hsc]; exact g.2⟩
  · have l := like_piv (d := t.scale) A.like (show p < ((List.range n).filter has).length + 1 by omega) (show q < weak.length + strict.length + n by omega)
    refine Like.congr l (fun i hi j hj => ?_)
    unfold piv
    by_cases e : i = p
    · subst e; rw [if_pos rfl, if_pos rfl]
    · rw [if_neg e, if_neg (fun e2 => ?_)]
      by_cases e3 : i < ((List.range n).filter has).length
      · exact e (kf_inj e3 (by omega) e2)
      · have e4 : i = ((List.range n).filter has).length := by omega
        rw [e4, kf_end] at e2; omega
  · show t.basis.set p q = _
    refine List.ext_getElem (by rw [List.length_set, List.length_map, bl]) (fun i h1 h2 => ?_)
    have hi : i < ((List.range n).filter has).length := by rw [List.length_map] at h2; exact h2
    have ek : ((List.range n).filter has)[i] = kf ((List.range n).filter has) n i := by unfold kf; rw [if_pos hi, List.getD_eq_getElem?_getD, List.getElem?_eq_getElem hi]; rfl
    rw [List.getElem_set, List.getElem_map, ek]
    by_cases e : p = i
    · subst e; rw [if_pos rfl, if_pos rfl]
    · rw [if_neg e, if_neg (fun e2 => e (kf_inj hi (by omega) e2).symm)]
      have := A.bat (i := i) (by omega)
      rw [List.getD_eq_getElem?_getD, List.getElem?_eq_getElem (by omega)] at this
      exact this
theorem Along.ends1 (A : Along h has st t T bas) (ih : ∀ t' T' bas', Along h has st t' T' bas' → left (askOf h) st T' t'.scale < left (askOf h) st T t.scale →
    ∃ j r, Ends (weak.length + strict.length) (weak.length + strict.length + n) st j t' r ∧ Good n weak strict r) :
    ∃ j r, Ends (weak.length + strict.length) (weak.length + strict.length + n) st j t r ∧ Good n weak strict r := by
  have ok := A.ok
  have bl := A.blen
  have bs := best_spec (goal := t.goal) (m := weak.length + strict.length) (g := fun j => T n j) (by rw [A.goal_len]; omega) (fun j hj => A.goal_at (by omega))
  by_cases hb : bestC t.goal (weak.length + strict.length) < 0
  · exact ⟨0, _, Ends.point ok hb, A.point (bs.1 hb)⟩
  · obtain ⟨q, hq⟩ : ∃ q : Nat, bestC t.goal (weak.length + strict.length) = q := ⟨(bestC t.goal (weak.length + strict.length)).toNat, by omega⟩
    have ⟨hqm, hg⟩ := bs.2 q hq
    have hg' : 0 < T n q := hg
    have ls := leave_spec A.like (q := q) (show q < weak.length + strict.length + n by omega) (st := st) (fun k hk => by have : k < weak.length + strict.length := A.go.in_cols hk; omega) t.basis.length (by omega)
    by_cases hl : leaveL t.rows q st t.basis.length < 0
    · exact ⟨0, _, Ends.sum ok hq hqm hl, A.sum hqm hg' (fun i hi => ls.1 hl i hi)⟩
    · obtain ⟨p, hp⟩ : ∃ p : Nat, leaveL t.rows q st t.basis.length = p := ⟨(leaveL t.rows q st t.basis.length).toNat, by omega⟩
      have ⟨hpl, hpq, least⟩ := ls.2 p hp
      obtain ⟨T', bas', A', lt⟩ := A.next hpl hqm hg' hpq least
      obtain ⟨j, r, he, hr⟩ := ih _ _ _ A' lt
      exact ⟨j + 1, r, Ends.step ok hq hqm hp he, hr⟩
theorem Along.ends : ∀ (L : Nat) {t : Tab} {T : Nat → Nat → Int} {bas : Nat → Nat}, Along h has st t T bas → left (askOf h) st T t.scale ≤ L →
    ∃ j r, Ends (weak.length + strict.length) (weak.length + strict.length + n) st j t r ∧ Good n weak strict r := by
  intro L
  induction L with
  | zero => exact fun A hL => A.ends1 (fun _ _ _ _ hh => by omega)
  | succ L ih => exact fun A hL => A.ends1 (fun _ _ _ A' hh => ih A' (by omega))
/-- the exchanges come to an end, and to a right one -/
theorem signs_end (h : Asks n weak strict) : ∃ j r, (∀ i, i ≤ n → SOk (settleTo (weak.length + strict.length) (rows0 n weak strict) i) n (weak.length + strict.length + n)) ∧
    Ends (weak.length + strict.length) (weak.length + strict.length + n) (tabOf (settleTo (weak.length + strict.length) (rows0 n weak strict) n) n).basis j (tabOf (settleTo (weak.length + strict.length) (rows0 n weak strict) n) n) r ∧ Good n weak strict r := by
  obtain ⟨has, T, bas, A⟩ := along_first h
  obtain ⟨j, r, he, hr⟩ := A.ends _ (Nat.le_refl _)
  exact ⟨j, r, settled_ok h, he, hr⟩
end

end K8

set_option Elab.async false
set_option maxRecDepth 100000
set_option exponentiation.threshold 2000
set_option linter.all false
set_option maxHeartbeats 1000000
namespace K8
open PySem L2 Dl
local macro_rules | `(tactic| walk_at "vis") => `(tactic| first | exact Or.inl rfl | exact Or.inr (Or.inl rfl) | exact Or.inr (Or.inr rfl))
local macro_rules | `(tactic| walk_at "sto") => `(tactic| first | exact ⟨rfl, Or.inl rfl, Or.inl rfl⟩ | exact ⟨rfl, Or.inl rfl, Or.inr rfl⟩ | exact ⟨rfl, Or.inr rfl, Or.inl rfl⟩)
local macro_rules | `(tactic| walk_at "var") => `(tactic| first
  | exact ev_var 0 rfl (by walk_at "vis") rfl | exact ev_var 1 rfl (by walk_at "vis") rfl | exact ev_var 2 rfl (by walk_at "vis") rfl | exact ev_var 3 rfl (by walk_at "vis") rfl
  | exact ev_var 4 rfl (by walk_at "vis") rfl | exact ev_var 5 rfl (by walk_at "vis") rfl | exact ev_var 6 rfl (by walk_at "vis") rfl | exact ev_var 7 rfl (by walk_at "vis") rfl
  | exact ev_var 8 rfl (by walk_at "vis") rfl | exact ev_var 9 rfl (by walk_at "vis") rfl | exact ev_var 10 rfl (by walk_at "vis") rfl | exact ev_var 11 rfl (by walk_at "vis") rfl
  | exact ev_var 12 rfl (by walk_at "vis") rfl | exact ev_var 13 rfl (by walk_at "vis") rfl | exact ev_var 14 rfl (by walk_at "vis") rfl | exact ev_var 15 rfl (by walk_at "vis") rfl)

local macro_rules | `(tactic| walk_at "ev") => `(tactic| first
  | exact ev_int | exact ev_bl | exact ev_str | exact ev_non
  | walk_at "var"
  | (refine ev_neg ?_ <;> walk_at "ev")
  | (refine ev_add ?_ ?_ <;> walk_at "ev")
  | (refine ev_sub ?_ ?_ <;> walk_at "ev"))

local macro_rules | `(tactic| walk_at "blk") => `(tactic| (dsimp only; decide +kernel))
def Res.ints : Res → List Int
  | .point p => p
  | .sum ws => ws
/-- how large the integers of an end are -/
def Tiny (n : Nat) (weak strict : List (List Int)) (r : Res) : Prop := ∀ x ∈ r.ints, x.natAbs ≤ Sg.top (n + 1) (mxA (weak ++ strict))
theorem weights_le {B : Nat} (rows : List (List Int)) (scale : Int) (hs : scale.natAbs ≤ B) (basis : List Nat) (q m N : Nat) (h : ∀ i, i < N → ((rows.getD i []).getD q 0).natAbs ≤ B) : ∀ i, i ≤ N → ∀ x ∈ weightsL rows scale basis q m i, x.natAbs ≤ B
  | 0, _ => by
    intro x hx
    unfold weightsL at hx
    rw [List.range_zero, List.foldl_nil] at hx
    rcases List.mem_or_eq_of_mem_set hx with h | h
    · rw [List.eq_of_mem_replicate h]; exact Nat.zero_le _
    · rw [h]; exact hs
  | i + 1, hi => by
    have ih := weights_le rows scale hs basis q m N h i (by omega)
    intro x hx
    unfold weightsL at *
    rw [List.range_succ, List.foldl_append, List.foldl_cons, List.foldl_nil] at hx
    rcases List.mem_or_eq_of_mem_set hx with h' | h'
    · exact ih x h'
    · rw [h', Int.natAbs_neg]; exact h i (by omega)
theorem ediv_abs (x g : Int) : (x / g).natAbs ≤ x.natAbs := by
  exact Int.natAbs_ediv_le_natAbs x g
theorem divL_le {l : List Int} {B : Nat} (h : ∀ x ∈ l, x.natAbs ≤ B) : ∀ x ∈ divL l, x.natAbs ≤ B := fun x hx => by
  unfold divL at hx
  obtain ⟨y, hy, rfl⟩ := List.mem_map.mp hx
  exact Nat.le_trans (ediv_abs y _) (h y hy)
section
open Sg
variable {n : Nat} {weak strict : List (List Int)} {h : Asks n weak strict} {has : Nat → Bool} {st : List Nat} {t : Tab} {T : Nat → Nat → Int} {bas : Nat → Nat}
theorem Along.tiny_point (A : Along h has st t T bas) : Tiny n weak strict (.point (divL ((t.goal.drop (weak.length + strict.length)).map (- ·)))) := by
  obtain ⟨B, s, S⟩ := A.go.st
  refine divL_le (fun x hx => ?_)
  obtain ⟨y, hy, rfl⟩ := List.mem_map.mp hx
  rw [Int.natAbs_neg]
  obtain ⟨j, hj, rfl⟩ := mem_getD 0 (List.mem_of_mem_drop hy)
  rw [A.goal_len] at hj
  rw [A.goal_at hj]
  exact S.bound (show n < n + 1 by omega) (show j < weak.length + strict.length + n from hj)
theorem Along.tiny_sum (A : Along h has st t T bas) {q : Nat} (hq : q < weak.length + strict.length) :
    Tiny n weak strict (.sum (divL (weightsL t.rows t.scale t.basis q (weak.length + strict.length) t.basis.length))) := by
  obtain ⟨B, s, S⟩ := A.go.st
  have bl := A.blen
  refine divL_le (weights_le t.rows t.scale S.bound_d t.basis q _ t.basis.length (fun i hi => ?_) _ (Nat.le_refl _))
  have hk := kf_lt (n := n) (has := has) (i := i) (by omega)
  have e : (t.rows.getD i []).getD q 0 = T (kf ((List.range n).filter has) n i) q := A.like.2.2 i (by omega) q (by omega)
  rw [e]
  exact S.bound (show kf ((List.range n).filter has) n i < n + 1 by omega) (show q < weak.length + strict.length + n by omega)
theorem Along.fin1 (A : Along h has st t T bas) (ih : ∀ t' T' bas', Along h has st t' T' bas' → left (askOf h) st T' t'.scale < left (askOf h) st T t.scale →
    ∃ j r, Ends (weak.length + strict.length) (weak.length + strict.length + n) st j t' r ∧ Good n weak strict r ∧ Tiny n weak strict r) :
    ∃ j r, Ends (weak.length + strict.length) (weak.length + strict.length + n) st j t r ∧ Good n weak strict r ∧ Tiny n weak strict r := by
  have ok := A.ok
  have bl := A.blen
  have bs := best_spec (goal := t.goal) (m := weak.length + strict.length) (g := fun j => T n j) (by rw [A.goal_len]; omega) (fun j hj => A.goal_at (by omega))
  by_cases hb : bestC t.goal (weak.length + strict.length) < 0
  · exact ⟨0, _, Ends.point ok hb, A.point (bs.1 hb), A.tiny_point⟩
  · obtain ⟨q, hq⟩ : ∃ q : Nat, bestC t.goal (weak.length + strict.length) = q := ⟨(bestC t.goal (weak.length + strict.length)).toNat, by omega⟩
    have ⟨hqm, hg⟩ := bs.2 q hq
    have hg' : 0 < T n q := hg
    have ls := leave_spec A.like (q := q) (show q < weak.length + strict.length + n by omega) (st := st) (fun k hk => by have : k < weak.length + strict.length := A.go.in_cols hk; omega) t.basis.length (by omega)
    by_cases hl : leaveL t.rows q st t.basis.length < 0
    · exact ⟨0, _, Ends.sum ok hq hqm hl, A.sum hqm hg' (fun i hi => ls.1 hl i hi), A.tiny_sum hqm⟩
    · obtain ⟨p, hp⟩ : ∃ p : Nat, leaveL t.rows q st t.basis.length = p := ⟨(leaveL t.rows q st t.basis.length).toNat, by omega⟩
      have ⟨hpl, hpq, least⟩ := ls.2 p hp
      obtain ⟨T', bas', A', lt⟩ := A.next hpl hqm hg' hpq least
      obtain ⟨j, r, he, hr⟩ := ih _ _ _ A' lt
      exact ⟨j + 1, r, Ends.step ok hq hqm hp he, hr⟩
theorem Along.fin : ∀ (L : Nat) {t : Tab} {T : Nat → Nat → Int} {bas : Nat → Nat}, Along h has st t T bas → left (askOf h) st T t.scale ≤ L →
    ∃ j r, Ends (weak.length + strict.length) (weak.length + strict.length + n) st j t r ∧ Good n weak strict r ∧ Tiny n weak strict r := by
  intro L
  induction L with
  | zero => exact fun A hL => A.fin1 (fun _ _ _ _ hh => by omega)
  | succ L ih => exact fun A hL => A.fin1 (fun _ _ _ A' hh => ih A' (by omega))
/-- the exchanges come to an end, to a right one, whose integers are not large -/
theorem signs_fin (h : Asks n weak strict) : ∃ r j, (∀ i, i ≤ n → SOk (settleTo (weak.length + strict.length) (rows0 n weak strict) i) n (weak.length + strict.length + n)) ∧
    Ends (weak.length + strict.length) (weak.length + strict.length + n) (tabOf (settleTo (weak.length + strict.length) (rows0 n weak strict) n) n).basis j (tabOf (settleTo (weak.length + strict.length) (rows0 n weak strict) n) n) r ∧ Good n weak strict r ∧ Tiny n weak strict r := by
  obtain ⟨has, T, bas, A⟩ := along_first h
  obtain ⟨j, r, he, hr⟩ := A.fin _ (Nat.le_refl _)
  exact ⟨r, j, settled_ok h, he, hr⟩
end
open Classical in
/-- the end itself -/
noncomputable def theRes (n : Nat) (weak strict : List (List Int)) : Res := if h : Asks n weak strict then Classical.choose (signs_fin h) else .sum []
theorem theRes_spec {n : Nat} {weak strict : List (List Int)} (h : Asks n weak strict) : ∃ j, (∀ i, i ≤ n → SOk (settleTo (weak.length + strict.length) (rows0 n weak strict) i) n (weak.length + strict.length + n)) ∧
    Ends (weak.length + strict.length) (weak.length + strict.length + n) (tabOf (settleTo (weak.length + strict.length) (rows0 n weak strict) n) n).basis j (tabOf (settleTo (weak.length + strict.length) (rows0 n weak strict) n) n) (theRes n weak strict) ∧ Good n weak strict (theRes n weak strict) ∧ Tiny n weak strict (theRes n weak strict) := by
  unfold theRes
  rw [dif_pos h]
  exact Classical.choose_spec (signs_fin h)
/-- a right end, the very one that is told -/
def GoodR (n : Nat) (weak strict : List (List Int)) (r : Res) : Prop := Good n weak strict r ∧ Tiny n weak strict r ∧ r = theRes n weak strict

end K8

set_option Elab.async false
set_option maxRecDepth 100000
set_option linter.all false
set_option maxHeartbeats 2000000
namespace Dl
open PySem PySem.Spec PyProof.Rows L2
section
variable {I : Inf} {c : Ct} {ds : List SD} {A : After} {st : Stmt} {rest : List Stmt} {e : Expr} {P : D → Prop} {pos : Pos} {d : D}
/-- a statement that is an expression -/
theorem rs_expr (h : EvE I c e ds P) (hn : A.nx ds) (hs : ∀ X, Fits I X → swapsWith e none pos.line X.env = pure false := by intros; rfl) : RunS I c (.Expr e pos) ds A := fun X F σ G H E s k =>
  w_ps (ps_expr pe_w (hs X F)) (h X F σ G H s _ fun v G1 H1 d x1 s1 r1 p1 => k.nx σ G1 H1 ds x1.g s1 hn)

/-! ### defs with a star parameter -/
structure FnVS (I : Inf) (x : Str) (sp : Sp) : Prop where
  ok : ∃ (f : Addr), I.mg x = some (.ref f) ∧ PySem.W.keepIn I.K (.ref f) = true ∧ FnR I.prog I.w I.K I.mg I.base CX0 I.k f sp
theorem pe_callR {X : Cx} {CX : CXT} {k : Nat} {f : Addr} {sp : Sp} {E : XK} {x : Str} {es : List Expr} {t : TA} {p : Pos} (F : FnR X.prog X.w X.K X.mg X.base CX k f sp) (hr : Room k X.A) (hg : Gl X x) (hm : X.mg x = some (.ref f)) (hk : PySem.W.keepIn X.K (.ref f) = true) (hx : Passes CX X E)
    (ha : PA X (e :: es) t) (hdb : (x == ("__debug__" : Str)) = false := by decide) (he : starEach (e :: es) X.env = (false, eval e X.env) :: starEach es X.env := by rfl) (hpl : (backTo pos (starEach es X.env)).any (·.1) = false := by rfl) :
    PE X (.Call (.Name x p) (e :: es) [] pos) (fun σ H Q => t σ H fun vs H1 => sp vs H1 Q E) := by
  refine ⟨fun pins s σ H Q I h => ?_⟩
  refine wpAny_Call_Name_kw (ld_glob I hg hm ?_ hdb)
  refine PySem.W.callWith_K (h₀ := X.base) I.ok.mod.kin hk (thn (ha.run pos pins s σ H _ I h) fun us s1 ⟨vs, H1, I1, r, q⟩ => ⟨I1.kIn, ?_⟩) he hpl
  exact wpAny_call (run_fnR F hr hx I1 r q)
theorem ev_callV {x : Str} {p : Pos} {es : List Expr} {Pc : List AD → (D → Prop) → Prop} {PA : List AD → Prop} (hf : FnVS I x (spD I.K Pc)) (hg : I.sc.names.lookup x = some .globalImplicit) (ha : EvAD I c (e :: es) ds PA)
    (h : ∀ l, PA l → ∃ R, Pc l R ∧ ∀ d, R d → P d) (hdb : (x == ("__debug__" : Str)) = false := by decide)
    (he : ∀ X, Fits I X → starEach (e :: es) X.env = (false, eval e X.env) :: starEach es X.env := by intros; rfl) (hpl : ∀ X, Fits I X → (backTo pos (starEach es X.env)).any (·.1) = false := by intros; rfl) :
    EvE I c (.Call (.Name x p) (e :: es) [] pos) ds P := fun X F σ G H s Q k => by
  obtain ⟨f, hm, hk, G0⟩ := hf.ok
  have G1 : FnR X.prog X.w X.K X.mg X.base CX0 I.k f (spD I.K Pc) := by rw [F.prog, F.w, F.K, F.mg, F.base]; exact G0
  refine w_pe (pe_callR G1 F.room (by show X.env.scope.names.lookup x = _; rw [F.sc]; exact hg) (by rw [F.mg]; exact hm) (by rw [F.K]; exact hk) pass0 pa_w hdb (he X F) (hpl X F)) ?_
  refine ha X F σ G H s _ fun vs G1 H1 l x1 s1 r1 p1 => ?_
  obtain ⟨R, hc, hp⟩ := h l p1
  refine ⟨{ deck := c.Z.deck }, G1, l, R, rfl, s1.ex, s1.deck, ArgsRp.zone (Z := c.Z) (Z' := { deck := c.Z.deck }) rfl r1, hc, fun v G' H' d t r q => ?_⟩
  obtain ⟨s2, gr⟩ := State.after s1 t rfl (.inr rfl)
  exact k v G' H' d (x1.trans gr) s2 r (hp d q)
end
theorem start_set {N : List Str} {ws : List V} {v : V} (h : ws.length < N.length) : (L2.start N ws).set ws.length (some v) = L2.start N (ws ++ [v]) := by
  unfold L2.start
  rw [List.set_append_right _ _ (by simp), List.map_append, List.append_assoc]
  congr 1
  obtain ⟨z, hz⟩ : ∃ z, N.length - ws.length = z + 1 := ⟨N.length - ws.length - 1, by omega⟩
  simp only [List.length_map, Nat.sub_self, List.length_append, List.length_cons, List.length_nil]
  rw [show N.length - (ws.length + (0 + 1)) = z by omega, hz]
  simp [List.replicate_succ]
theorem undats {K : Frag} {Z : Zone} {G : Hp} : ∀ {rs : List D} {vs : List V}, ArgsRp K Z G (rs.map AD.dat) vs → RpA K G rs vs
  | [], vs, h => by
    have h2 : vs = [] := h
    subst h2; exact RpA.nil
  | r :: rs, vs, h => by
    obtain ⟨v, ws, rfl, h1, h2⟩ := h
    exact RpA.cons h1 (undats h2)
theorem args_split {K : Frag} {Z : Zone} {G : Hp} {rs : List D} : ∀ {as : List AD} {vs : List V}, ArgsRp K Z G (as ++ rs.map AD.dat) vs → ∃ ws rest, vs = ws ++ rest ∧ ArgsRp K Z G as ws ∧ RpA K G rs rest
  | [], vs, h => ⟨[], vs, rfl, rfl, undats h⟩
  | a :: as, vs, h => by
    obtain ⟨v, ws, rfl, h1, h2⟩ := h
    obtain ⟨us, rest, rfl, h3, h4⟩ := args_split (as := as) h2
    exact ⟨v :: us, rest, rfl, ⟨v, us, rfl, h1, h3⟩, h4⟩
section
variable {P : Program} {w : World} {K : Frag} {mg : Str → Option Value} {base : Heap} {x qual : Str} {st : Stmt} {f : Addr} {fd : FuncData} {N ps : List Str} {k : Nat}
theorem fn_mkV {pv : Str} {Pc : List AD → (D → Prop) → Prop} (F : Fun K x qual st f fd) (Sc : FnScope N (ps ++ [pv]) (defScope st))
    (hsp : ∀ ads R, Pc ads R → ∃ (as : List AD) (rs : List D), ads = as ++ rs.map AD.dat ∧ as.length = ps.length ∧ rs.length ≤ Lm)
    (hb : ∀ (kV doc pm : Value) (an : Option Addr) (cdv ct : Value) (us rest : List Value), us.length = ps.length → bindArgs (PySem.W.fnOf x qual (defArgs st) (defBody st) (defScope st) .none kV doc pm an cdv ct) ⟨us ++ rest, []⟩ = (newTuple rest >>= fun t => pure (ps.zip us ++ [(pv, t)])))
    (body : ∀ (c : Ct) (as : List AD) (rs : List D) (R : D → Prop), Pc (as ++ rs.map AD.dat) R → as.length = ps.length → c.Z.given = none →
      Run ⟨P, w, K, mg, base, N, defScope st, k, fun _ => true, false⟩ c (defBody st) ((startD as N.length).set as.length (.dat (.tuple rs))) { nx := fun _ => R .none, rt := R, ro := fun l => R (.list l) }) :
    FnR P w K mg base CX0 (k + 1) f (spD K Pc) := by
  obtain ⟨oc, od, kV, doc, pm, an, cdv, ct, osl, rfl, lk, hcd⟩ := F.ex
  have hlN : ps.length < N.length := by have := congrArg List.length Sc.pre; rw [List.length_take, List.length_append] at this; simp at this; omega
  refine (StX.fn_star (CX := CX0) (sp := fun vs H2 Q E => ∃ (H G : Hp) (Z : Zone) (as : List AD) (rs : List D) (ws rest : List V) (R : D → Prop) (p : Addr), vs = ws ++ [V.ref p] ∧ H2 = upd H p (.tup rest) ∧ H p = none ∧ Z.given = none ∧ Ex G H ∧ DeckIn Z G H ∧ ArgsRp K Z G as ws ∧ RpA K G rs rest ∧ as.length = ps.length ∧ rs.length ≤ Lm ∧ Pc (as ++ rs.map AD.dat) R ∧
      ∀ v G' H' d, State K Z G H G' H' [] [] → Rp K G' d v → R d → Q v H') lk hcd Sc StX.cxUp_none (hb kV doc pm an cdv ct) (fun A outer s H2 vs Q E hr h => ?_)).imp (fun vs H Q E h => ?_)
  · obtain ⟨H, G, Z, as, rs, ws, rest, R, p, rfl, rfl, hp, hz, ex, hd, ra, rr, hla, hlr, hc, q⟩ := h
    have hwl := ra.length
    have s0 := State.start (N := N) hz ex hd ra (by omega)
    have s1 := (s0.laid (o := .tup rest) hp).1
    have s2 := s1.set (i := as.length) (v := .ref p) (sd := .dat (.tuple rs)) rfl ⟨.ref p, rfl, .tup (SqT.of upd_same) hlr (rr.mono (Ex.new (by cases e : G p with | none => rfl | some o => rw [ex _ _ e] at hp; cases hp)))⟩
    rw [← hwl, start_set (by omega)] at s2
    refine ⟨_, (pss_w (X := (cxOf CX0 P w K mg base N qual (defScope st) f cdv A outer s (upd H p (.tup rest)) E).nox)).nox, ?_⟩
    rw [hwl] at s2
    refine body ⟨Z, G, H⟩ as rs R hc hla hz _ (fits_def Sc hr) _ _ _ _ s2 ⟨fun σ' G' H' ds' e s' n => q .non G' H' .none s'.drop .non n, fun _ _ _ _ _ _ z => z.elim, fun _ _ _ _ _ _ z => z.elim,
      fun v G' H' d s' r' n => q v G' H' d s' r' n, fun p xs G' H' l s' a1 a2 a3 a4 a5 a6 n => ?_, fun _ _ _ _ _ _ _ _ _ _ _ _ _ _ _ _ _ _ _ _ z => z.elim⟩
    have s2 : State K Z G H (upd G' p (.lst xs)) H' [] [] := State.know s' a5 a2 a3 (.inl a1) (fun i l h => by simp at h)
    exact q (.ref p) _ H' (.list l) s2 (.lst upd_same a4 (a6.mono (Ex.new a2))) n
  · obtain ⟨Z, G, ads, R, hz, ex, hd, r, hc, q⟩ := h
    obtain ⟨as, rs, rfl, hla, hlr⟩ := hsp ads R hc
    obtain ⟨ws, rest, rfl, ra, rr⟩ := args_split r
    refine ⟨ws, rest, rfl, by rw [ra.length, hla], by rw [rr.length]; exact Lm_le hlr, fun p hp => ⟨H, G, Z, as, rs, ws, rest, R, p, rfl, rfl, hp, hz, ex, hd, ra, rr, hla, hlr, hc, q⟩⟩
end
end Dl


set_option Elab.async false
set_option maxRecDepth 100000
set_option exponentiation.threshold 2000
set_option linter.all false
set_option maxHeartbeats 1000000
namespace K8
open PySem L2 Dl
local macro_rules | `(tactic| walk_at "vis") => `(tactic| first | exact Or.inl rfl | exact Or.inr (Or.inl rfl) | exact Or.inr (Or.inr rfl))
local macro_rules | `(tactic| walk_at "sto") => `(tactic| first | exact ⟨rfl, Or.inl rfl, Or.inl rfl⟩ | exact ⟨rfl, Or.inl rfl, Or.inr rfl⟩ | exact ⟨rfl, Or.inr rfl, Or.inl rfl⟩)
local macro_rules | `(tactic| walk_at "var") => `(tactic| first
  | exact ev_var 0 rfl (by walk_at "vis") rfl | exact ev_var 1 rfl (by walk_at "vis") rfl | exact ev_var 2 rfl (by walk_at "vis") rfl | exact ev_var 3 rfl (by walk_at "vis") rfl
  | exact ev_var 4 rfl (by walk_at "vis") rfl | exact ev_var 5 rfl (by walk_at "vis") rfl | exact ev_var 6 rfl (by walk_at "vis") rfl | exact ev_var 7 rfl (by walk_at "vis") rfl
  | exact ev_var 8 rfl (by walk_at "vis") rfl | exact ev_var 9 rfl (by walk_at "vis") rfl | exact ev_var 10 rfl (by walk_at "vis") rfl | exact ev_var 11 rfl (by walk_at "vis") rfl
  | exact ev_var 12 rfl (by walk_at "vis") rfl | exact ev_var 13 rfl (by walk_at "vis") rfl | exact ev_var 14 rfl (by walk_at "vis") rfl | exact ev_var 15 rfl (by walk_at "vis") rfl)

local macro_rules | `(tactic| walk_at "ev") => `(tactic| first
  | exact ev_int | exact ev_bl | exact ev_str | exact ev_non
  | walk_at "var"
  | (refine ev_neg ?_ <;> walk_at "ev")
  | (refine ev_add ?_ ?_ <;> walk_at "ev")
  | (refine ev_sub ?_ ?_ <;> walk_at "ev"))

local macro_rules | `(tactic| walk_at "blk") => `(tactic| (dsimp only; decide +kernel))
theorem mem_wallsD {ws : List (List Int)} {d : D} (h : d ∈ ws.map wallD) : ∃ w ∈ ws, d = wallD w := mem_wall h
section
variable {P : Program} {w : World} {K : Frag} {mg : Str → Option Value} {base : Heap} {k : Nat} {f : Addr} {fd : FuncData}

/-! is_integer(thing) -/
abbrev sIi : Stmt := top 7
theorem scIi : FnScope ["thing"] ["thing"] (defScope sIi) := ⟨rfl, rfl, rfl, by decide +kernel, rfl, by decide +kernel, by decide +kernel⟩
def pcIi : List AD → (D → Prop) → Prop := fun ads R => ∃ x : Int, ads = [.dat (.int x)] ∧ R = (· = .bool true)
theorem ok_Ii (m : Mg mg) (F : Fun K "is_integer" "is_integer" sIi f fd) : FnOk P w K mg base CX0 (k + 1) f fd ["thing"] (spD K pcIi) := by
  refine fn_mkD F scIi (fun ads R h => by obtain ⟨_, rfl, _⟩ := h; rfl) fun c ads R h hz => ?_
  obtain ⟨x, rfl, rfl⟩ := h
  exact run_one (rs_ret (ev_and (x := true) (y := true) (ev_isi (T := "int") (d := .int x) (r := true) rfl m.isinstance rfl m.int (by decide +kernel) (by walk_at "var") (by show kitB "int" "int" = _; decide +kernel)) (fun _ =>
    ev_one ((ev_not (x := false) (ev_isi (T := "bool") (d := .int x) (r := false) rfl m.isinstance rfl m.bool (by decide +kernel) (by walk_at "var") (by show kitB "int" "bool" = _; decide +kernel)))))) rfl)

/-! is_between(thing, low, high) -/
abbrev sIb : Stmt := top 8
theorem scIb : FnScope ["thing", "low", "high"] ["thing", "low", "high"] (defScope sIb) := ⟨rfl, rfl, rfl, by decide +kernel, rfl, by decide +kernel, by decide +kernel⟩
def pcIb : List AD → (D → Prop) → Prop := fun ads R => ∃ x lo hi : Int, ads = [.dat (.int x), .dat (.int lo), .dat (.int hi)] ∧ R = (· = .bool (decide (lo ≤ x) && decide (x ≤ hi)))
theorem ok_Ib (m : Mg mg) (F : Fun K "is_between" "is_between" sIb f fd) (hIi : Has P w K mg base k "is_integer" (spD K pcIi)) : FnOk P w K mg base CX0 (k + 1) f fd ["thing", "low", "high"] (spD K pcIb) := by
  refine fn_mkD F scIb (fun ads R h => by obtain ⟨_, _, _, rfl, _⟩ := h; rfl) fun c ads R h hz => ?_
  obtain ⟨x, lo, hi, rfl, rfl⟩ := h
  refine run_one (rs_ret (ev_and (x := true) (y := decide (lo ≤ x) && decide (x ≤ hi)) (ev_callD (PA := (· = [.dat (.int x)])) (Pc := pcIi) ⟨hIi⟩ rfl (ed_dat (by walk_at "var") ed_nil) (fun l hl => ⟨_, ⟨x, hl, rfl⟩, fun d hd => hd⟩)) (fun _ =>
    ev_one (ev_chainI (g := fun i j => decide (i ≤ j)) (g' := fun i j => decide (i ≤ j)) (fun _ => op_le) (fun _ => op_le) rfl (by walk_at "var") (by walk_at "var") (by walk_at "var")))) rfl)

/-! are_integers(thing, many) -/
abbrev sAi : Stmt := top 9
theorem scAi : FnScope ["thing", "many", "x"] ["thing", "many"] (defScope sAi) := ⟨rfl, rfl, rfl, by decide +kernel, rfl, by decide +kernel, by decide +kernel⟩
def pcAi : List AD → (D → Prop) → Prop := fun ads R => ∃ (r : List Int) (n : Nat), ads = [.dat (wallD r), .dat (.int n)] ∧ r.length = n ∧ n ≤ Lm ∧ R = (· = .bool true)
theorem ok_Ai (m : Mg mg) (F : Fun K "are_integers" "are_integers" sAi f fd) (hIi : Has P w K mg base k "is_integer" (spD K pcIi)) : FnOk P w K mg base CX0 (k + 1) f fd ["thing", "many"] (spD K pcAi) := by
  refine fn_mkD F scAi (fun ads R h => by obtain ⟨_, _, rfl, _⟩ := h; rfl) fun c ads R h hz => ?_
  obtain ⟨r, n, rfl, hr, hn, rfl⟩ := h
  have hall : (r.map (fun _ => true)).all id = true := by simp
  refine run_one (rs_ret (ev_and (x := true) (y := true) (ev_isi (T := "tuple") (d := wallD r) (r := true) rfl m.isinstance rfl m.tuple (by decide +kernel) (by walk_at "var") (by show kitB "tuple" "tuple" = _; decide +kernel)) (fun _ =>
    ev_and (x := true) (y := true) ((ev_eqI (ev_lenT (l := r.map PyData.int) rfl m.len (by walk_at "var")) (by walk_at "var")).is (by simp [hr])) (fun _ =>
      ev_one ((ev_all (bs := r.map (fun _ => true)) rfl m.all ((ev_lc (ef_map [("x", 2)] (items := r.map PyData.int) (fun _ => .bool true) (by walk_at "blk") (wk_tup (by walk_at "var")) (tg_name (i := 2) (by walk_at "sto")) (by rw [List.length_map, hr]; exact hn) ?_)).is ?_)).is (by rw [hall]))))) rfl)
  · intro d hd
    obtain ⟨x, hx, rfl⟩ := mem_int hd
    exact ⟨_, rfl, by simp, ev_callD (PA := (· = [.dat (.int x)])) (Pc := pcIi) ⟨hIi⟩ rfl (ed_dat (by walk_at "var") ed_nil) (fun l hl => ⟨_, ⟨x, hl, rfl⟩, fun d hd => hd⟩)⟩
  · rw [List.map_map, List.map_map]; rfl

/-! bound_border(width) -/
abbrev sBb : Stmt := top 29
theorem scBb : FnScope ["width"] ["width"] (defScope sBb) := ⟨rfl, rfl, rfl, by decide +kernel, rfl, by decide +kernel, by decide +kernel⟩
def boundW (n : Nat) : List Int := List.replicate (n - 1) 0 ++ [1]
def pcBb : List AD → (D → Prop) → Prop := fun ads R => ∃ n : Nat, ads = [.dat (.int n)] ∧ 1 ≤ n ∧ n ≤ 100 ∧ R = (· = wallD (boundW n))
theorem ok_Bb (F : Fun K "bound_border" "bound_border" sBb f fd) : FnOk P w K mg base CX0 (k + 1) f fd ["width"] (spD K pcBb) := by
  refine fn_mkD F scBb (fun ads R h => by obtain ⟨_, rfl, _⟩ := h; rfl) fun c ads R h hz => ?_
  obtain ⟨n, rfl, h1, h2, rfl⟩ := h
  refine run_one (rs_ret (ev_catT (l := List.replicate (n - 1) (.int 0)) (m := [.int 1]) ((ev_repT (l := [.int 0]) (n := ((n - 1 : Nat) : Int)) (ev_tup (ea_cons ev_int ea_nil)) ((ev_sub (by walk_at "var") ev_int).is (by congr 1; omega)) (by omega) (by omega) (by decide)).is ?_) (ev_tup (ea_cons ev_int ea_nil)) ?_) ?_)
  · rw [Int.toNat_natCast, flat1]
  · rw [List.length_replicate]; show n - 1 + 1 ≤ 100000; omega
  · unfold wallD boundW; rw [List.map_append, List.map_replicate]; rfl
end

end K8

set_option Elab.async false
set_option maxRecDepth 100000
set_option linter.all false
set_option maxHeartbeats 2000000
namespace Dl
open PySem PySem.Spec PyProof.Rows L2 PySem.W
section
variable {prog : Program} {w : World} {A : Around} {E : Value → Shared → Prop} {s : Shared}
/-- the items of a tuple for *a, b, ..: a list, then the last ones -/
theorem unpack_star0 {l : Addr} {items : Array Value} {n : Nat} {Q : List Value → Shared → Prop} (hl : IsTup s.heap l items) (hh : A.handled = none) (h0 : 0 < n) (hn : n ≤ items.size + 1) (hz : items.size ≤ 16384)
    (h : ∀ (h' : Heap) (tk : Nat), (∀ b o, s.heap.get? b = some o → h'.get? b = some o) →
      Q (.ref h'.objs.size :: items.toList.drop (items.size + 1 - n)) { s with heap := h'.push { cls := .type "list", data := .seq (items.toList.take (items.size + 1 - n)).toArray }, toks := tk }) :
    wpAny (model prog w) A (unpackItems (.ref l) n (some 0)) Q E s := by
  have hlt : l ≠ s.heap.objs.size := by obtain ⟨o, ho, _⟩ := hl; exact Nat.ne_of_lt (Heap.lt_size ho)
  unfold unpackItems
  refine wpAny_bind ?_
  unfold notIterableAtAll
  refine wpAny_bind (wpAny_specialOf hl.typeIs PySem.F.slot_tuple_iter.lookup ?_)
  refine wpAny_pure ?_
  simp only [Bool.false_eq_true, if_false]
  refine wpAny_bind (wpAny_holding (iter_tuple hl ?_))
  refine wpAny_bind (wpAny_holding (wpAny_pure ?_))
  rw [if_neg (show ¬ (([] : List Value).length < 0) by simp)]
  refine wpAny_bind (wpAny_holding (kun_collect (T := "tuple_iterator") (.inr (.inr (.inr rfl))) (Walks.tuple (A := A.in1) hh s.heap.objs.size l hlt items) (fun j u st => st.1.typeIs) (k := 0) (by omega)
    ⟨⟨_, Heap.get?_push_size _ rfl, rfl, rfl⟩, IsTup.push hl _⟩ (by show _ < (s.heap.push _).objs.size; rw [Heap.size_push]; exact Nat.lt_succ_self _) (by obtain ⟨o, ho, _⟩ := hl; have := Heap.lt_size ho; show _ < (s.heap.push _).objs.size; rw [Heap.size_push]; exact Nat.lt_succ_of_lt this) (fun h2 tk hk => ?_) (by rw [sizeLine_eq]; omega)))
  rw [List.drop_zero]
  have hl2 : items.toList.length = items.size := Array.length_toList
  have hm : items.toList.length - (n - 1 - 0) = items.size + 1 - n := by omega
  show wpAny _ _ (if items.toList.length < n - 1 - 0 then _ else _) _ _ _
  rw [if_neg (by omega)]
  show wpAny _ _ (newList (items.toList.take (items.toList.length - (n - 1 - 0))) >>= fun d => pure ([] ++ [d] ++ items.toList.drop (items.toList.length - (n - 1 - 0)))) _ _ _
  rw [hm]
  refine wpAny_bind (wpAny_newList (wpAny_pure ?_) (by rw [List.length_take, sizeLine_eq]; omega))
  exact h h2 tk (fun b o e => hk b o (Nat.ne_of_lt (Heap.lt_size e)) (Heap.get?_push_of_some _ e))
end
/-- *a, b, .. = a tuple -/
def gStar (K : Frag) (n : Nat) (t : TGs) : TG := fun v σ H Q => ∃ a xs, v = .ref a ∧ SqT K H a xs ∧ 0 < n ∧ n ≤ xs.length + 1 ∧ xs.length ≤ 16384 ∧ ∀ q, H q = none → t (.ref q :: xs.drop (xs.length + 1 - n)) σ (upd H q (.lst (xs.take (xs.length + 1 - n)))) Q
section
variable {X : Cx} {pos : Pos}
theorem pgs_star {e : Expr} {p : Pos} {es : List Expr} {t : TG} {u : TGs} (h1 : PG X e t) (h2 : PGs X es u)
    (hs : (assignEach (.Starred e p :: es) X.env).map (·.2) = assign e X.env :: (assignEach es X.env).map (·.2) := by rfl) : PGs X (.Starred e p :: es) (gCons t u) := by
  refine ⟨fun pins s σ H vs us Q I r h => ?_⟩
  obtain ⟨v, vr, e1, h⟩ := h
  subst e1
  cases r with
  | cons r rr =>
    rw [hs]
    refine assignInOrder_cons (thn (h1.run pins s σ H _ _ _ I r h) fun _ s1 ⟨σ1, H1, I1, q1⟩ => ?_)
    exact h2.run pins s1 σ1 H1 _ _ Q I1 rr q1
theorem vals_take {n : Nat} : ∀ {xs : List V} {us : List Value}, Vals xs us → Vals (xs.take n) (us.take n) := by
  induction n with
  | zero => intro xs us _; (simp; exact .nil)
  | succ n ih =>
    intro xs us r
    cases r with
    | nil => (simp; exact .nil)
    | cons a r => exact .cons a (ih r)
theorem vals_drop {n : Nat} : ∀ {xs : List V} {us : List Value}, Vals xs us → Vals (xs.drop n) (us.drop n) := by
  induction n with
  | zero => intro xs us r; (simp; exact r)
  | succ n ih =>
    intro xs us r
    cases r with
    | nil => (simp; exact .nil)
    | cons a r => exact ih r
theorem pg_star {es : List Expr} {k : Nat} {t : TGs} {n : Nat} (hc : X.calm = true) (h : PGs X es t)
    (hn : (assignEach es X.env).length = n := by rfl) (hst : (assignEach es X.env).findIdx? (·.1) = some 0 := by rfl) : PG X (.Tuple es k pos) (gStar X.K n t) := by
  refine ⟨fun pins s σ H v u Q I r hw => ?_⟩
  obtain ⟨a, xs, e1, hq, h0, hl, hz, hw⟩ := hw
  subst e1
  cases r
  obtain ⟨its, rv, ht, _⟩ := I.tuple hq
  have hlen := rv.length
  rw [assign_Tuple]
  refine wpAny_bind (wpAny_standAt ?_)
  unfold unpack
  rw [hn, hst]
  refine wpAny_bind (wpAny_holding (unpack_star0 ht (I.ok.hd hc) h0 (by simp; omega) (by simp; omega) (fun h' tk hk => ?_)))
  have I1 : Inv X pins σ H { s with heap := h', toks := tk } := I.kept (t' := tk) hk
  have hf : H h'.objs.size = none := I1.hok.fresh (Nat.le_refl _)
  have e2 : its.toArray.toList = its := by simp
  have e3 : its.toArray.size = xs.length := by simp [hlen]
  rw [e2, e3]
  have new : ObjOk X.prog X.w (upd H h'.objs.size (.lst (xs.take (xs.length + 1 - n)))) (h'.push { cls := .type "list", data := .seq (its.take (xs.length + 1 - n)).toArray }) h'.objs.size (.lst (xs.take (xs.length + 1 - n))) :=
    ⟨by rw [List.length_take, sizeLine_eq]; omega, _, 0, vals_take rv, Heap.get?_push_size _ rfl⟩
  have I2 := I1.laid (t' := tk) (fun b u e => Heap.get?_push_of_some _ e) (Nat.le_refl _) new
  exact h.run pins _ σ _ _ _ Q I2 (show Vals (V.ref h'.objs.size :: xs.drop (xs.length + 1 - n)) (Value.ref h'.objs.size :: its.drop (xs.length + 1 - n)) from .cons rfl (vals_drop rv)) (hw _ hf)
end

section
variable {I : Inf} {c : Ct} {ds : List SD} {A : After} {e : Expr} {P : D → Prop} {pos : Pos} {d : D}
theorem rpA_take {K : Frag} {G : Hp} {n : Nat} : ∀ {l : List D} {vs : List V}, RpA K G l vs → RpA K G (l.take n) (vs.take n) := by
  induction n with
  | zero => intro l vs _; simp; exact RpA.nil
  | succ n ih =>
    intro l vs r
    cases l with
    | nil => have := r.length; cases vs with | nil => simpa using r | cons _ _ => simp at this
    | cons a l => obtain ⟨v, ws, rfl, r1, r2⟩ := r.inv; exact RpA.cons r1 (ih r2)
theorem rpA_drop {K : Frag} {G : Hp} {n : Nat} : ∀ {l : List D} {vs : List V}, RpA K G l vs → RpA K G (l.drop n) (vs.drop n) := by
  induction n with
  | zero => intro l vs r; simpa using r
  | succ n ih =>
    intro l vs r
    cases l with
    | nil => have := r.length; cases vs with | nil => simpa using r | cons _ _ => simp at this
    | cons a l => obtain ⟨v, ws, rfl, r1, r2⟩ := r.inv; exact ih r2
/-- *a, b, c = a tuple -/
theorem rs_star2 {i j m : Nat} {x y z : Str} {p1 p2 p3 ps pt : Pos} {kk : Nat} (hx : Sto I i x) (hy : Sto I j y) (hz : Sto I m z) (h : EvE I c e ds P)
    (hn : ∀ d, P d → ∃ l d1 d2, d = .tuple (l ++ [d1, d2]) ∧ l.length ≤ 1000 ∧ A.nx (((ds.set i (.dat (.list l))).set j (.dat d1)).set m (.dat d2)))
    (hs : ∀ X, Fits I X → swapsWithSole [.Tuple [.Starred (.Name x p1) ps, .Name y p2, .Name z p3] kk pt] e pos.line X.env = pure false := by intros; rfl)
    (hw : ∀ X, Fits I X → swappedStores [.Tuple [.Starred (.Name x p1) ps, .Name y p2, .Name z p3] kk pt] e X.env = pure none := by intros; rfl)
    (h1 : ∀ X, Fits I X → (assignEach [.Tuple [.Starred (.Name x p1) ps, .Name y p2, .Name z p3] kk pt] X.env).map (·.2) = [assign (.Tuple [.Starred (.Name x p1) ps, .Name y p2, .Name z p3] kk pt) X.env] := by intros; rfl) :
    RunS I c (.Assign [.Tuple [.Starred (.Name x p1) ps, .Name y p2, .Name z p3] kk pt] e pos) ds A := fun X F σ G H E s k => by
  have pg := pg_star (k := kk) (pos := pt) (n := 3) F.calm (pgs_star (p := ps) (pg_name (pos := p1) (i := i) (by rw [F.N]; exact F.nd) (by rw [F.N]; exact hx.at_) (by rw [F.sc]; exact hx.loc) (hx.fn F)) (pgs_cons (pg_name (pos := p2) (i := j) (by rw [F.N]; exact F.nd) (by rw [F.N]; exact hy.at_) (by rw [F.sc]; exact hy.loc) (hy.fn F)) (pgs_cons (pg_name (pos := p3) (i := m) (by rw [F.N]; exact F.nd) (by rw [F.N]; exact hz.at_) (by rw [F.sc]; exact hz.loc) (hz.fn F)) pgs_nil)))
  refine w_ps (ps_asg pe_w pg (hs X F) (hw X F) (h1 X F)) (h X F σ G H s _ fun v G1 H1 d x1 s1 r1 q1 => ?_)
  obtain ⟨l, d1, d2, rfl, hl, hnx⟩ := hn d q1
  obtain ⟨a, xs, rfl, hq, _, ra⟩ := r1.tup'
  have hlen := ra.length
  rw [List.length_append] at hlen
  have hlen : xs.length = l.length + 2 := hlen
  have e1 : xs.length + 1 - 3 = l.length := by omega
  have rt := rpA_take (n := l.length) ra
  have rd := rpA_drop (n := l.length) ra
  rw [List.take_left'  rfl] at rt
  rw [List.drop_left' rfl] at rd
  obtain ⟨v1, v2, e2, r1, r2⟩ := rpa2 rd
  refine ⟨a, xs, rfl, by rw [F.K]; exact ex_t s1.ex hq, by decide, by omega, by omega, fun p np => ?_⟩
  rw [e1, e2]
  obtain ⟨s2, x2⟩ := s1.laid (o := .lst (xs.take l.length)) np
  have s3 := s2.set (i := i) (v := .ref p) (sd := .dat (.list l)) rfl ⟨_, rfl, .lst upd_same (Nat.le_trans hl (by decide)) (rt.mono x2.g)⟩
  have s4 := s3.set (i := j) (v := v1) (sd := .dat d1) rfl ⟨_, rfl, r1.mono x2.g⟩
  have s5 := s4.set (i := m) (v := v2) (sd := .dat d2) rfl ⟨_, rfl, r2.mono x2.g⟩
  exact ⟨_, _, rfl, _, _, rfl, _, _, rfl, rfl, k.nx _ _ _ _ (x1.g.trans x2.g) s5 hnx⟩
theorem rs_star1 {i j : Nat} {x y : Str} {p1 p2 ps pt : Pos} {kk : Nat} (hx : Sto I i x) (hy : Sto I j y) (h : EvE I c e ds P)
    (hn : ∀ d, P d → ∃ l d1, d = .tuple (l ++ [d1]) ∧ l.length ≤ 1000 ∧ A.nx ((ds.set i (.dat (.list l))).set j (.dat d1)))
    (hs : ∀ X, Fits I X → swapsWithSole [.Tuple [.Starred (.Name x p1) ps, .Name y p2] kk pt] e pos.line X.env = pure false := by intros; rfl)
    (hw : ∀ X, Fits I X → swappedStores [.Tuple [.Starred (.Name x p1) ps, .Name y p2] kk pt] e X.env = pure none := by intros; rfl)
    (h1 : ∀ X, Fits I X → (assignEach [.Tuple [.Starred (.Name x p1) ps, .Name y p2] kk pt] X.env).map (·.2) = [assign (.Tuple [.Starred (.Name x p1) ps, .Name y p2] kk pt) X.env] := by intros; rfl) :
    RunS I c (.Assign [.Tuple [.Starred (.Name x p1) ps, .Name y p2] kk pt] e pos) ds A := fun X F σ G H E s k => by
  have pg := pg_star (k := kk) (pos := pt) (n := 2) F.calm (pgs_star (p := ps) (pg_name (pos := p1) (i := i) (by rw [F.N]; exact F.nd) (by rw [F.N]; exact hx.at_) (by rw [F.sc]; exact hx.loc) (hx.fn F)) (pgs_cons (pg_name (pos := p2) (i := j) (by rw [F.N]; exact F.nd) (by rw [F.N]; exact hy.at_) (by rw [F.sc]; exact hy.loc) (hy.fn F)) pgs_nil))
  refine w_ps (ps_asg pe_w pg (hs X F) (hw X F) (h1 X F)) (h X F σ G H s _ fun v G1 H1 d x1 s1 r1 q1 => ?_)
  obtain ⟨l, d1, rfl, hl, hnx⟩ := hn d q1
  obtain ⟨a, xs, rfl, hq, _, ra⟩ := r1.tup'
  have hlen := ra.length
  rw [List.length_append] at hlen
  have hlen : xs.length = l.length + 1 := hlen
  have e1 : xs.length + 1 - 2 = l.length := by omega
  have rt := rpA_take (n := l.length) ra
  have rd := rpA_drop (n := l.length) ra
  rw [List.take_left' rfl] at rt
  rw [List.drop_left' rfl] at rd
  obtain ⟨v1, e2, r1⟩ := rpa1 rd
  refine ⟨a, xs, rfl, by rw [F.K]; exact ex_t s1.ex hq, by decide, by omega, by omega, fun p np => ?_⟩
  rw [e1, e2]
  obtain ⟨s2, x2⟩ := s1.laid (o := .lst (xs.take l.length)) np
  have s3 := s2.set (i := i) (v := .ref p) (sd := .dat (.list l)) rfl ⟨_, rfl, .lst upd_same (Nat.le_trans hl (by decide)) (rt.mono x2.g)⟩
  have s4 := s3.set (i := j) (v := v1) (sd := .dat d1) rfl ⟨_, rfl, r1.mono x2.g⟩
  exact ⟨_, _, rfl, _, _, rfl, rfl, k.nx _ _ _ _ (x1.g.trans x2.g) s4 hnx⟩
end
section
variable {I : Inf} {c : Ct} {ds : List SD} {a b : Expr} {P PA PB : D → Prop} {pos : Pos}
theorem ev_eqP (ha : EvE I c a ds PA) (hb : EvE I c b ds PB) (h : ∀ d e, PA d → PB e → SeqAt.shaped d = true ∧ SeqAt.shaped e = true ∧ P (.bool (PyData.eqv d e))) : EvE I c (.Compare a [.Eq] [b] pos) ds P :=
  ev_cmp (r := rEqD I.K) (fun X F => by have := op_eqD (X := X) F.room.units; rw [F.K] at this; exact this) (nobehind _ (by decide) (by decide)) ha hb fun d' e' hi hj => by
    obtain ⟨sd, se, hp⟩ := h d' e' hi hj
    exact rv_eq sd se hp
end
end Dl


set_option Elab.async false
set_option maxRecDepth 100000
set_option exponentiation.threshold 2000
set_option linter.all false
set_option maxHeartbeats 1000000
namespace K8
open PySem L2 Dl
local macro_rules | `(tactic| walk_at "vis") => `(tactic| first | exact Or.inl rfl | exact Or.inr (Or.inl rfl) | exact Or.inr (Or.inr rfl))
local macro_rules | `(tactic| walk_at "sto") => `(tactic| first | exact ⟨rfl, Or.inl rfl, Or.inl rfl⟩ | exact ⟨rfl, Or.inl rfl, Or.inr rfl⟩ | exact ⟨rfl, Or.inr rfl, Or.inl rfl⟩)
local macro_rules | `(tactic| walk_at "var") => `(tactic| first
  | exact ev_var 0 rfl (by walk_at "vis") rfl | exact ev_var 1 rfl (by walk_at "vis") rfl | exact ev_var 2 rfl (by walk_at "vis") rfl | exact ev_var 3 rfl (by walk_at "vis") rfl
  | exact ev_var 4 rfl (by walk_at "vis") rfl | exact ev_var 5 rfl (by walk_at "vis") rfl | exact ev_var 6 rfl (by walk_at "vis") rfl | exact ev_var 7 rfl (by walk_at "vis") rfl
  | exact ev_var 8 rfl (by walk_at "vis") rfl | exact ev_var 9 rfl (by walk_at "vis") rfl | exact ev_var 10 rfl (by walk_at "vis") rfl | exact ev_var 11 rfl (by walk_at "vis") rfl
  | exact ev_var 12 rfl (by walk_at "vis") rfl | exact ev_var 13 rfl (by walk_at "vis") rfl | exact ev_var 14 rfl (by walk_at "vis") rfl | exact ev_var 15 rfl (by walk_at "vis") rfl)

local macro_rules | `(tactic| walk_at "ev") => `(tactic| first
  | exact ev_int | exact ev_bl | exact ev_str | exact ev_non
  | walk_at "var"
  | (refine ev_neg ?_ <;> walk_at "ev")
  | (refine ev_add ?_ ?_ <;> walk_at "ev")
  | (refine ev_sub ?_ ?_ <;> walk_at "ev"))

local macro_rules | `(tactic| walk_at "blk") => `(tactic| (dsimp only; decide +kernel))
section
open Sg
/-! what follows -/
def negL (g : List Int) : List Int := g.map (- ·)
def Keeps (n : Nat) (a b : List (List Int)) (p : List Int) : Prop := p.length = n ∧ 1 ≤ p.getD (n - 1) 0 ∧ (∀ w ∈ a, 0 ≤ dotn n w p) ∧ ∀ w ∈ b, 0 < dotn n w p
def Follows (n : Nat) (a b : List (List Int)) (g : List Int) : Prop := ∀ p, Keeps n a b p → 0 ≤ dotn n g p
def Empty (n : Nat) (a b : List (List Int)) : Prop := ∀ p, ¬ Keeps n a b p
theorem sumTo_comm (m n : Nat) (f : Nat → Nat → Int) : Sg.sumTo m (fun j => Sg.sumTo n (fun k => f j k)) = Sg.sumTo n (fun k => Sg.sumTo m (fun j => f j k)) := by
  induction m with
  | zero => simp only [Sg.sumTo]; rw [sumTo_zero (fun _ _ => rfl)]
  | succ m ih => simp only [Sg.sumTo]; rw [ih, ← sumTo_add]
theorem dot_neg {n : Nat} {g p : List Int} : dotn n (negL g) p = - dotn n g p := by
  unfold dotn
  have : - Sg.sumTo n (fun k => g.getD k 0 * p.getD k 0) = (-1) * Sg.sumTo n (fun k => g.getD k 0 * p.getD k 0) := by omega
  rw [this, ← sumTo_mul]
  refine sumTo_congr (fun k _ => ?_)
  have : (negL g).getD k 0 = - g.getD k 0 := by
    unfold negL
    by_cases h : k < g.length
    · rw [getD_map_lt _ _ 0 _ h]
    · rw [List.getD_eq_getElem?_getD, List.getD_eq_getElem?_getD, List.getElem?_eq_none (by simp; omega), List.getElem?_eq_none (by omega)]; simp
  rw [this]; grind
theorem boundW_at {n k : Nat} (h : k < n) : (boundW n).getD k 0 = if k = n - 1 then 1 else 0 := by
  unfold boundW
  by_cases e : k = n - 1
  · subst e; rw [if_pos rfl, getD_append_r _ _ _ (by simp), List.length_replicate, Nat.sub_self]; rfl
  · rw [if_neg e, getD_append_l _ _ _ (by simp; omega), getD_rep _ _ _ (by omega)]
theorem dot_bound {n : Nat} {p : List Int} (h : 1 ≤ n) : dotn n (boundW n) p = p.getD (n - 1) 0 := by
  unfold dotn
  rw [sumTo_one (n - 1) (by omega) (fun k hk hne => by rw [boundW_at hk, if_neg hne]; simp), boundW_at (by omega), if_pos rfl]; simp
theorem good_sum_no {n : Nat} {weak strict : List (List Int)} {ws : List Int} (h : Good n weak strict (.sum ws)) {p : List Int} (hw : ∀ w ∈ weak, 0 ≤ dotn n w p) (hs : ∀ w ∈ strict, 0 < dotn n w p) : False := by
  obtain ⟨hl, h0, hk, j, hj1, hj2, hjp⟩ := h
  have tot : Sg.sumTo (weak.length + strict.length) (fun j => ws.getD j 0 * dotn n ((weak ++ strict).getD j []) p) = 0 := by
    have e1 : Sg.sumTo (weak.length + strict.length) (fun j => ws.getD j 0 * dotn n ((weak ++ strict).getD j []) p) = Sg.sumTo (weak.length + strict.length) (fun j => Sg.sumTo n (fun k => ws.getD j 0 * (gv weak strict j k * p.getD k 0))) := by
      refine sumTo_congr (fun j _ => ?_)
      rw [sumTo_mul]; rfl
    rw [e1, sumTo_comm]
    refine sumTo_zero (fun k hk' => ?_)
    have e2 : Sg.sumTo (weak.length + strict.length) (fun j => ws.getD j 0 * (gv weak strict j k * p.getD k 0)) = p.getD k 0 * Sg.sumTo (weak.length + strict.length) (fun j => ws.getD j 0 * gv weak strict j k) := by
      rw [← sumTo_mul]
      exact sumTo_congr (fun j _ => by grind)
    rw [e2, hk k hk']; simp
  have nn : ∀ i, i < weak.length + strict.length → 0 ≤ dotn n ((weak ++ strict).getD i []) p := by
    intro i hi
    by_cases e : i < weak.length
    · rw [getD_append_l _ _ _ e]; exact hw _ (getD_mem _ _ e)
    · rw [getD_append_r _ _ _ (by omega)]
      have := hs _ (getD_mem strict [] (i := i - weak.length) (by omega)); omega
  have pos : 0 < ws.getD j 0 * dotn n ((weak ++ strict).getD j []) p := by
    refine Int.mul_pos hjp ?_
    rw [getD_append_r _ _ _ hj1]
    exact hs _ (getD_mem strict [] (i := j - weak.length) (by omega))
  have e3 : Sg.sumTo (weak.length + strict.length) (fun i => ws.getD i 0 * dotn n ((weak ++ strict).getD i []) p)
      = Sg.sumTo (weak.length + strict.length) (fun i => if i = j then 0 else ws.getD i 0 * dotn n ((weak ++ strict).getD i []) p) + Sg.sumTo (weak.length + strict.length) (fun i => if i = j then ws.getD i 0 * dotn n ((weak ++ strict).getD i []) p else 0) := by
    rw [← sumTo_add]
    refine sumTo_congr (fun i _ => ?_)
    by_cases e : i = j
    · rw [if_pos e, if_pos e]; omega
    · rw [if_neg e, if_neg e]; omega
  have e4 : Sg.sumTo (weak.length + strict.length) (fun i => if i = j then ws.getD i 0 * dotn n ((weak ++ strict).getD i []) p else 0) = ws.getD j 0 * dotn n ((weak ++ strict).getD j []) p := by
    rw [sumTo_one j hj2 (fun i _ hne => by rw [if_neg hne]), if_pos rfl]
  have e5 : 0 ≤ Sg.sumTo (weak.length + strict.length) (fun i => if i = j then 0 else ws.getD i 0 * dotn n ((weak ++ strict).getD i []) p) := by
    refine sumTo_nonneg (fun i hi => ?_)
    by_cases e : i = j
    · rw [if_pos e]; omega
    · rw [if_neg e]; exact Int.mul_nonneg (h0 i) (nn i hi)
  omega
theorem good_follows {n : Nat} {a b : List (List Int)} {g : List Int} (h1 : 1 ≤ n) : ∀ {r : Res}, Good n a (b ++ [boundW n, negL g]) r → (∀ ws, r = .sum ws → Follows n a b g) ∧ (∀ p, r = .point p → Keeps n a b p ∧ dotn n g p < 0)
  | .point p, h => by
    refine ⟨fun _ e => (by cases e), fun p' e => ?_⟩
    cases e
    obtain ⟨hl, hw, hs⟩ := h
    have b1 := hs (boundW n) (by simp)
    have b2 := hs (negL g) (by simp)
    rw [dot_bound h1] at b1
    rw [dot_neg] at b2
    exact ⟨⟨hl, b1, hw, fun w hw' => hs w (by simp [hw'])⟩, by omega⟩
  | .sum ws, h => by
    refine ⟨fun ws' e => ?_, fun _ e => (by cases e)⟩
    cases e
    intro p hp
    rcases Int.lt_or_le (dotn n g p) 0 with hlt | hle
    · exfalso
      obtain ⟨hl, hb, hw, hs⟩ := hp
      refine good_sum_no h hw (fun w hw' => ?_)
      simp only [List.mem_append, List.mem_cons, List.not_mem_nil, or_false] at hw'
      rcases hw' with h2 | h2 | h2
      · exact hs w h2
      · rw [h2, dot_bound h1]; omega
      · rw [h2, dot_neg]; omega
    · exact hle
theorem good_empty {n : Nat} {a b : List (List Int)} (h1 : 1 ≤ n) : ∀ {r : Res}, Good n a (b ++ [boundW n]) r → (∀ ws, r = .sum ws → Empty n a b) ∧ (∀ p, r = .point p → Keeps n a b p)
  | .point p, h => by
    refine ⟨fun _ e => (by cases e), fun p' e => ?_⟩
    cases e
    obtain ⟨hl, hw, hs⟩ := h
    have b1 := hs (boundW n) (by simp)
    rw [dot_bound h1] at b1
    exact ⟨hl, b1, hw, fun w hw' => hs w (by simp [hw'])⟩
  | .sum ws, h => by
    refine ⟨fun ws' e => ?_, fun _ e => (by cases e)⟩
    cases e
    intro p hp
    obtain ⟨hl, hb, hw, hs⟩ := hp
    refine good_sum_no h hw (fun w hw' => ?_)
    simp only [List.mem_append, List.mem_cons, List.not_mem_nil, or_false] at hw'
    rcases hw' with h2 | h2
    · exact hs w h2
    · rw [h2, dot_bound h1]; omega
end

end K8

set_option Elab.async false
set_option maxRecDepth 100000
set_option exponentiation.threshold 2000
set_option linter.all false
set_option maxHeartbeats 1000000
namespace K8
open PySem L2 Dl
local macro_rules | `(tactic| walk_at "vis") => `(tactic| first | exact Or.inl rfl | exact Or.inr (Or.inl rfl) | exact Or.inr (Or.inr rfl))
local macro_rules | `(tactic| walk_at "sto") => `(tactic| first | exact ⟨rfl, Or.inl rfl, Or.inl rfl⟩ | exact ⟨rfl, Or.inl rfl, Or.inr rfl⟩ | exact ⟨rfl, Or.inr rfl, Or.inl rfl⟩)
local macro_rules | `(tactic| walk_at "var") => `(tactic| first
  | exact ev_var 0 rfl (by walk_at "vis") rfl | exact ev_var 1 rfl (by walk_at "vis") rfl | exact ev_var 2 rfl (by walk_at "vis") rfl | exact ev_var 3 rfl (by walk_at "vis") rfl
  | exact ev_var 4 rfl (by walk_at "vis") rfl | exact ev_var 5 rfl (by walk_at "vis") rfl | exact ev_var 6 rfl (by walk_at "vis") rfl | exact ev_var 7 rfl (by walk_at "vis") rfl
  | exact ev_var 8 rfl (by walk_at "vis") rfl | exact ev_var 9 rfl (by walk_at "vis") rfl | exact ev_var 10 rfl (by walk_at "vis") rfl | exact ev_var 11 rfl (by walk_at "vis") rfl
  | exact ev_var 12 rfl (by walk_at "vis") rfl | exact ev_var 13 rfl (by walk_at "vis") rfl | exact ev_var 14 rfl (by walk_at "vis") rfl | exact ev_var 15 rfl (by walk_at "vis") rfl)

local macro_rules | `(tactic| walk_at "ev") => `(tactic| first
  | exact ev_int | exact ev_bl | exact ev_str | exact ev_non
  | walk_at "var"
  | (refine ev_neg ?_ <;> walk_at "ev")
  | (refine ev_add ?_ ?_ <;> walk_at "ev")
  | (refine ev_sub ?_ ?_ <;> walk_at "ev"))

local macro_rules | `(tactic| walk_at "blk") => `(tactic| (dsimp only; decide +kernel))
theorem dats_inj : ∀ {a b : List D}, a.map AD.dat = b.map AD.dat → a = b
  | [], [], _ => rfl
  | [], _ :: _, h => by cases h
  | _ :: _, [], h => by cases h
  | x :: a, y :: b, h => by
    injection h with h1 h2
    injection h1 with h1
    rw [h1, dats_inj h2]
def HasV (P : Program) (w : World) (K : Frag) (mg : Str → Option Value) (base : Heap) (k : Nat) (x : Str) (sp : Sp) : Prop :=
  ∃ (f : Addr), mg x = some (.ref f) ∧ PySem.W.keepIn K (.ref f) = true ∧ FnR P w K mg base CX0 k f sp
structure Okw (n : Nat) (ws : List (List Int)) : Prop where
  few : ws.length ≤ 80
  len : ∀ r ∈ ws, r.length = n
section
variable {P : Program} {w : World} {K : Frag} {mg : Str → Option Value} {base : Heap} {k : Nat} {f : Addr} {fd : FuncData}

/-! demand_width(width) -/
abbrev sDw : Stmt := top 26
theorem scDw : FnScope ["width"] ["width"] (defScope sDw) := ⟨rfl, rfl, rfl, by decide +kernel, rfl, by decide +kernel, by decide +kernel⟩
def pcDw : List AD → (D → Prop) → Prop := fun ads R => ∃ n : Nat, ads = [.dat (.int n)] ∧ 2 ≤ n ∧ n ≤ 8 ∧ R = (· = .none)
theorem ok_Dw (F : Fun K "demand_width" "demand_width" sDw f fd) (hIb : Has P w K mg base k "is_between" (spD K pcIb)) : FnOk P w K mg base CX0 (k + 1) f fd ["width"] (spD K pcDw) := by
  refine fn_mkD F scDw (fun ads R h => by obtain ⟨_, rfl, _⟩ := h; rfl) fun c ads R h hz => ?_
  obtain ⟨n, rfl, h2, h8, rfl⟩ := h
  refine run_one (rs_if (et_not (b := true) ((et_val (ev_callD (PA := (· = [.dat (.int n), .dat (.int 2), .dat (.int 8)])) (P := (· = .bool true)) (Pc := pcIb) ⟨hIb⟩ rfl (ed_dat (by walk_at "var") (ed_dat ev_int (ed_dat ev_int ed_nil))) (fun l hl => ⟨_, ⟨n, 2, 8, hl, rfl⟩, fun d hd => by rw [hd]; congr 1; simp; omega⟩))))) (fun h => absurd h (by decide)) (fun _ => run_nil rfl))

/-! is_border(width, thing) -/
abbrev sBo : Stmt := top 24
theorem scBo : FnScope ["width", "thing"] ["width", "thing"] (defScope sBo) := ⟨rfl, rfl, rfl, by decide +kernel, rfl, by decide +kernel, by decide +kernel⟩
def pcBo : List AD → (D → Prop) → Prop := fun ads R => ∃ (n : Nat) (r : List Int), ads = [.dat (.int n), .dat (wallD r)] ∧ 2 ≤ n ∧ n ≤ 8 ∧ r.length = n ∧ R = (· = .bool true)
theorem ok_Bo (F : Fun K "is_border" "is_border" sBo f fd) (hDw : Has P w K mg base k "demand_width" (spD K pcDw)) (hAi : Has P w K mg base k "are_integers" (spD K pcAi)) : FnOk P w K mg base CX0 (k + 1) f fd ["width", "thing"] (spD K pcBo) := by
  refine fn_mkD F scBo (fun ads R h => by obtain ⟨_, _, rfl, _⟩ := h; rfl) fun c ads R h hz => ?_
  obtain ⟨n, r, rfl, h2, h8, hr, rfl⟩ := h
  refine run_to (rs_expr (P := (· = .none)) (ev_callD (PA := (· = [.dat (.int n)])) (Pc := pcDw) ⟨hDw⟩ rfl (ed_dat (by walk_at "var") ed_nil) (fun l hl => ⟨_, ⟨n, hl, h2, h8, rfl⟩, fun d hd => hd⟩)) rfl) ?_
  exact run_one (rs_ret (ev_callD (PA := (· = [.dat (wallD r), .dat (.int n)])) (Pc := pcAi) ⟨hAi⟩ rfl (ed_dat (by walk_at "var") (ed_dat (by walk_at "var") ed_nil)) (fun l hl => ⟨_, ⟨r, n, hl, hr, Nat.le_trans h8 (by decide), rfl⟩, fun d hd => hd⟩)) rfl)

/-! are_borders(width, thing) -/
abbrev sBs : Stmt := top 25
theorem scBs : FnScope ["width", "thing", "item"] ["width", "thing"] (defScope sBs) := ⟨rfl, rfl, rfl, by decide +kernel, rfl, by decide +kernel, by decide +kernel⟩
def pcBs : List AD → (D → Prop) → Prop := fun ads R => ∃ (n : Nat) (ws : List (List Int)), ads = [.dat (.int n), .dat (wallsD ws)] ∧ 2 ≤ n ∧ n ≤ 8 ∧ Okw n ws ∧ R = (· = .bool true)
theorem ok_Bs (m : Mg mg) (hMB : ∃ t, mg "MOST_BORDERS" = some (.int 80 t)) (F : Fun K "are_borders" "are_borders" sBs f fd) (hDw : Has P w K mg base k "demand_width" (spD K pcDw)) (hAi : Has P w K mg base k "are_integers" (spD K pcAi)) :
    FnOk P w K mg base CX0 (k + 1) f fd ["width", "thing"] (spD K pcBs) := by
  refine fn_mkD F scBs (fun ads R h => by obtain ⟨_, _, rfl, _⟩ := h; rfl) fun c ads R h hz => ?_
  obtain ⟨n, ws, rfl, h2, h8, hw, rfl⟩ := h
  obtain ⟨t, hMB⟩ := hMB
  refine run_to (rs_expr (P := (· = .none)) (ev_callD (PA := (· = [.dat (.int n)])) (Pc := pcDw) ⟨hDw⟩ rfl (ed_dat (by walk_at "var") ed_nil) (fun l hl => ⟨_, ⟨n, hl, h2, h8, rfl⟩, fun d hd => hd⟩)) rfl) ?_
  refine run_to (rs_if (PT := (· = false)) ((et_of (ew_or (x := false) (y := false) (et_not (b := true) (et_val (ev_isi (T := "tuple") (d := wallsD ws) (r := true) rfl m.isinstance rfl m.tuple (by decide +kernel) (by walk_at "var") (by show kitB "tuple" "tuple" = _; decide +kernel))))
    (fun _ => ew_or1 ((et_gt (ev_lenT (l := ws.map wallD) rfl m.len (by walk_at "var")) (ev_globI rfl hMB)).imp (fun b hb => by rw [hb]; have := hw.few; simp; omega))))).imp (fun b hb => by rw [hb]; rfl)) (fun h => by cases h) (fun _ => run_nil rfl)) ?_
  have hall : (ws.map (fun _ => true)).all id = true := by simp
  refine run_one (rs_ret ((ev_all (bs := ws.map (fun _ => true)) rfl m.all ((ev_lc (ef_map [("item", 2)] (items := ws.map wallD) (fun _ => .bool true) (by walk_at "blk") (wk_tup (by walk_at "var")) (tg_name (i := 2) (by walk_at "sto")) (by rw [List.length_map]; exact Nat.le_trans hw.few (by decide)) ?_)).is ?_)).is (by rw [hall])) rfl)
  · intro d hd
    obtain ⟨r, hr, rfl⟩ := mem_wall hd
    exact ⟨_, rfl, by simp, ev_callD (PA := (· = [.dat (wallD r), .dat (.int n)])) (Pc := pcAi) ⟨hAi⟩ rfl (ed_dat (by walk_at "var") (ed_dat (by walk_at "var") ed_nil)) (fun l hl => ⟨_, ⟨r, n, hl, hw.len r hr, Nat.le_trans h8 (by decide), rfl⟩, fun d hd => hd⟩)⟩
  · rw [List.map_map, List.map_map]; rfl

/-! demand_rooms(width, *rooms) -/
abbrev sDr : Stmt := top 27
theorem scDr : FnScope ["width", "rooms", "walls"] ((["width"] : List Str) ++ (["rooms"] : List Str)) (defScope sDr) := ⟨rfl, rfl, rfl, by decide +kernel, rfl, by decide +kernel, by decide +kernel⟩
def pcDr : List AD → (D → Prop) → Prop := fun ads R => ∃ (n : Nat) (a b : List (List Int)), ads = [.dat (.int n), .dat (wallsD a), .dat (wallsD b)] ∧ 2 ≤ n ∧ n ≤ 8 ∧ Okw n a ∧ Okw n b ∧ R = (· = .none)
theorem ok_Dr (F : Fun K "demand_rooms" "demand_rooms" sDr f fd) (hDw : Has P w K mg base k "demand_width" (spD K pcDw)) (hBs : Has P w K mg base k "are_borders" (spD K pcBs)) :
    FnR P w K mg base CX0 (k + 1) f (spD K pcDr) := by
  refine fn_mkV (ps := ["width"]) (pv := "rooms") F scDr (fun ads R h => by
    obtain ⟨n, a, b, rfl, _⟩ := h
    exact ⟨[.dat (.int n)], [wallsD a, wallsD b], rfl, rfl, by show 2 ≤ 100000; decide⟩) (fun kV doc pm an cdv ct us rest hl => StX.bind_star1 (B := fun vs => bindArgs (PySem.W.fnOf "demand_rooms" "demand_rooms" (defArgs sDr) (defBody sDr) (defScope sDr) .none kV doc pm an cdv ct) ⟨vs, []⟩) (fun _ => rfl) (fun _ _ _ => rfl) us rest hl) fun c as rs R h hla hz => ?_
  obtain ⟨n, a, b, e, h2, h8, ha, hb, rfl⟩ := h
  obtain ⟨x, rfl⟩ : ∃ x, as = [x] := by
    cases as with
    | nil => cases hla
    | cons x t => cases t with
      | nil => exact ⟨x, rfl⟩
      | cons _ _ => cases hla
  have e1 : x = .dat (.int n) := by injection e
  have e2 : rs = [wallsD a, wallsD b] := by
    have e3 : rs.map AD.dat = [wallsD a, wallsD b].map AD.dat := by injection e
    exact dats_inj e3
  subst e1; subst e2
  refine run_to (rs_expr (P := (· = .none)) (ev_callD (PA := (· = [.dat (.int n)])) (Pc := pcDw) ⟨hDw⟩ rfl (ed_dat (by walk_at "var") ed_nil) (fun l hl => ⟨_, ⟨n, hl, h2, h8, rfl⟩, fun d hd => hd⟩)) rfl) ?_
  refine run_one (rs_for (items := [wallsD a, wallsD b]) (wk_tup (by walk_at "var")) (tg_name (i := 2) (by walk_at "sto"))
    (fun i ds' => ∃ z, ds' = [.dat (.int n), .dat (.tuple [wallsD a, wallsD b]), z]) ⟨_, rfl⟩ ?_ (fun ds' h => ?_))
  · rintro i d ds' hi ⟨z, rfl⟩
    obtain ⟨v, hv, rfl⟩ : ∃ v, Okw n v ∧ d = wallsD v := by
      match i, hi with
      | 0, hi => cases hi; exact ⟨a, ha, rfl⟩
      | 1, hi => cases hi; exact ⟨b, hb, rfl⟩
    refine ⟨_, rfl, run_one (rs_if (et_not (b := true) (et_val (ev_callD (PA := (· = [.dat (.int n), .dat (wallsD v)])) (Pc := pcBs) ⟨hBs⟩ rfl (ed_dat (by walk_at "var") (ed_dat (by walk_at "var") ed_nil)) (fun l hl => ⟨_, ⟨n, v, hl, h2, h8, hv, rfl⟩, fun d hd => hd⟩)))) (fun h => absurd h (by decide)) (fun _ => run_nil ⟨_, rfl⟩))⟩
  · obtain ⟨z, rfl⟩ := h; rfl

/-! demand_question(width, walls, stricts, wall) -/
abbrev sDq : Stmt := top 28
theorem scDq : FnScope ["width", "walls", "stricts", "wall"] ["width", "walls", "stricts", "wall"] (defScope sDq) := ⟨rfl, rfl, rfl, by decide +kernel, rfl, by decide +kernel, by decide +kernel⟩
def pcDq : List AD → (D → Prop) → Prop := fun ads R => ∃ (n : Nat) (a b : List (List Int)) (g : List Int), ads = [.dat (.int n), .dat (wallsD a), .dat (wallsD b), .dat (wallD g)] ∧ 2 ≤ n ∧ n ≤ 8 ∧ Okw n a ∧ Okw n b ∧ g.length = n ∧ R = (· = .none)
theorem ok_Dq (F : Fun K "demand_question" "demand_question" sDq f fd) (hDr : HasV P w K mg base k "demand_rooms" (spD K pcDr)) (hBo : Has P w K mg base k "is_border" (spD K pcBo)) :
    FnOk P w K mg base CX0 (k + 1) f fd ["width", "walls", "stricts", "wall"] (spD K pcDq) := by
  refine fn_mkD F scDq (fun ads R h => by obtain ⟨_, _, _, _, rfl, _⟩ := h; rfl) fun c ads R h hz => ?_
  obtain ⟨n, a, b, g, rfl, h2, h8, ha, hb, hg, rfl⟩ := h
  refine run_to (rs_expr (P := (· = .none)) (ev_callV (PA := (· = [.dat (.int n), .dat (wallsD a), .dat (wallsD b)])) (Pc := pcDr) ⟨hDr⟩ rfl (ed_dat (by walk_at "var") (ed_dat (by walk_at "var") (ed_dat (by walk_at "var") ed_nil))) (fun l hl => ⟨_, ⟨n, a, b, hl, h2, h8, ha, hb, rfl⟩, fun d hd => hd⟩)) rfl) ?_
  exact run_one (rs_if (et_not (b := true) (et_val (ev_callD (PA := (· = [.dat (.int n), .dat (wallD g)])) (Pc := pcBo) ⟨hBo⟩ rfl (ed_dat (by walk_at "var") (ed_dat (by walk_at "var") ed_nil)) (fun l hl => ⟨_, ⟨n, g, hl, h2, h8, hg, rfl⟩, fun d hd => hd⟩)))) (fun h => absurd h (by decide)) (fun _ => run_nil rfl))
end

end K8

set_option Elab.async false
set_option maxRecDepth 100000
set_option exponentiation.threshold 2000
set_option linter.all false
set_option maxHeartbeats 1000000
namespace K8
open PySem L2 Dl
local macro_rules | `(tactic| walk_at "vis") => `(tactic| first | exact Or.inl rfl | exact Or.inr (Or.inl rfl) | exact Or.inr (Or.inr rfl))
local macro_rules | `(tactic| walk_at "sto") => `(tactic| first | exact ⟨rfl, Or.inl rfl, Or.inl rfl⟩ | exact ⟨rfl, Or.inl rfl, Or.inr rfl⟩ | exact ⟨rfl, Or.inr rfl, Or.inl rfl⟩)
local macro_rules | `(tactic| walk_at "var") => `(tactic| first
  | exact ev_var 0 rfl (by walk_at "vis") rfl | exact ev_var 1 rfl (by walk_at "vis") rfl | exact ev_var 2 rfl (by walk_at "vis") rfl | exact ev_var 3 rfl (by walk_at "vis") rfl
  | exact ev_var 4 rfl (by walk_at "vis") rfl | exact ev_var 5 rfl (by walk_at "vis") rfl | exact ev_var 6 rfl (by walk_at "vis") rfl | exact ev_var 7 rfl (by walk_at "vis") rfl
  | exact ev_var 8 rfl (by walk_at "vis") rfl | exact ev_var 9 rfl (by walk_at "vis") rfl | exact ev_var 10 rfl (by walk_at "vis") rfl | exact ev_var 11 rfl (by walk_at "vis") rfl
  | exact ev_var 12 rfl (by walk_at "vis") rfl | exact ev_var 13 rfl (by walk_at "vis") rfl | exact ev_var 14 rfl (by walk_at "vis") rfl | exact ev_var 15 rfl (by walk_at "vis") rfl)

local macro_rules | `(tactic| walk_at "ev") => `(tactic| first
  | exact ev_int | exact ev_bl | exact ev_str | exact ev_non
  | walk_at "var"
  | (refine ev_neg ?_ <;> walk_at "ev")
  | (refine ev_add ?_ ?_ <;> walk_at "ev")
  | (refine ev_sub ?_ ?_ <;> walk_at "ev"))

local macro_rules | `(tactic| walk_at "blk") => `(tactic| (dsimp only; decide +kernel))
theorem split2 {l : List Int} {k : Nat} (h : l.length = k + 2) : l = l.take k ++ [l.getD k 0, l.getD (k + 1) 0] := by
  conv => lhs; rw [← List.take_append_drop k l]
  congr 1
  rw [List.drop_eq_getElem_cons (by omega), List.drop_eq_getElem_cons (by omega), List.drop_eq_nil_of_le (by omega)]
  simp [List.getD, List.getElem?_eq_getElem, h]
theorem split1 {l : List Int} {k : Nat} (h : l.length = k + 1) : l = l.take k ++ [l.getD k 0] := by
  conv => lhs; rw [← List.take_append_drop k l]
  congr 1
  rw [List.drop_eq_getElem_cons (by omega), List.drop_eq_nil_of_le (by omega)]
  simp [List.getD, List.getElem?_eq_getElem, h]
def SmW (ws : List (List Int)) : Prop := ∀ r ∈ ws, ∀ x ∈ r, x.natAbs ≤ 2 ^ 40
theorem asks_of {n : Nat} {a b : List (List Int)} {g : List Int} (h1 : 1 ≤ n) (h8 : n ≤ 8) (ha : Okw n a) (hb : Okw n b) (hg : g.length = n) (sa : SmW a) (sb : SmW b) (sg : ∀ x ∈ g, x.natAbs ≤ 2 ^ 40) : Asks n a (b ++ [boundW n, negL g]) := by
  have hbw : (boundW n).length = n := by unfold boundW; simp; omega
  refine ⟨h8, fun r hr => ?_, fun r hr x hx => ?_, by have := ha.few; omega, by have := hb.few; simp; omega⟩
  · simp only [List.mem_append, List.mem_cons, List.not_mem_nil, or_false] at hr
    rcases hr with h | h | h | h
    · exact ha.len r h
    · exact hb.len r h
    · rw [h]; exact hbw
    · rw [h]; unfold negL; simpa using hg
  · simp only [List.mem_append, List.mem_cons, List.not_mem_nil, or_false] at hr
    rcases hr with h | h | h | h
    · exact sa r h x hx
    · exact sb r h x hx
    · subst h; unfold boundW at hx
      simp only [List.mem_append, List.mem_replicate, List.mem_cons, List.not_mem_nil, or_false] at hx
      rcases hx with ⟨_, e⟩ | e <;> subst e <;> decide
    · subst h; unfold negL at hx
      obtain ⟨y, hy, rfl⟩ := List.mem_map.mp hx
      rw [Int.natAbs_neg]; exact sg y hy
theorem asks_of0 {n : Nat} {a b : List (List Int)} (h1 : 1 ≤ n) (h8 : n ≤ 8) (ha : Okw n a) (hb : Okw n b) (sa : SmW a) (sb : SmW b) : Asks n a (b ++ [boundW n]) := by
  have h := asks_of (g := boundW n) h1 h8 ha hb (by unfold boundW; simp; omega) sa sb (fun x hx => by
    unfold boundW at hx
    simp only [List.mem_append, List.mem_replicate, List.mem_cons, List.not_mem_nil, or_false] at hx
    rcases hx with ⟨_, e⟩ | e <;> subst e <;> decide)
  refine ⟨h.n8, fun r hr => h.len r ?_, fun r hr => h.sm r ?_, h.w1, by have := h.s1; simp at this ⊢; omega⟩ <;>
  · simp only [List.mem_append, List.mem_cons, List.not_mem_nil, or_false] at hr ⊢
    rcases hr with h | h | h
    · exact .inl h
    · exact .inr (.inl h)
    · exact .inr (.inr (.inl h))
def ansF (a b : List (List Int)) : Res → D
  | .point p => .tuple [.str "point", wallD p]
  | .sum ws => .tuple [.str "weights", .int ((ws.drop a.length).getD (b.length + 1) 0), wallD (ws.take a.length), wallD ((ws.drop a.length).take b.length), .int ((ws.drop a.length).getD b.length 0)]
def ansE (a b : List (List Int)) : Res → D
  | .point p => .tuple [.str "point", wallD p]
  | .sum ws => .tuple [.str "none", wallD (ws.take a.length), wallD ((ws.drop a.length).take b.length), .int ((ws.drop a.length).getD b.length 0)]
section
variable {P : Program} {w : World} {K : Frag} {mg : Str → Option Value} {base : Heap} {k : Nat} {f : Addr} {fd : FuncData}
/-- judge_signs by what it tells -/
def pcJs2 : List AD → (D → Prop) → Prop := fun ads R => ∃ (n : Nat) (weak strict : List (List Int)), ads = [.dat (.int n), .dat (wallsD weak), .dat (wallsD strict)] ∧ Asks n weak strict ∧ R = fun d => ∃ r : Res, GoodR n weak strict r ∧ d = r.d weak.length
theorem js_js2 (h : Has P w K mg base k "judge_signs" (spD K pcJs)) : Has P w K mg base k "judge_signs" (spD K pcJs2) := by
  obtain ⟨f, fd, ps, h1, h2, h3, h4⟩ := h
  refine ⟨f, fd, ps, h1, h2, h3, h4.imp fun vs H Q E h => ?_⟩
  obtain ⟨Z, G, ads, R, hz, ex, hd, r, hc, q⟩ := h
  obtain ⟨n, weak, strict, rfl, has, rfl⟩ := hc
  obtain ⟨j, h5, h6, h7, h8⟩ := theRes_spec has
  exact ⟨Z, G, _, (· = (theRes n weak strict).d weak.length), hz, ex, hd, r, ⟨n, weak, strict, _, j, _, rfl, has.n8, has.w1, has.s1, has.len, rfl, h5, h6, rfl⟩, fun v G' H' d s' r'' hd' => q v G' H' d s' r'' ⟨_, ⟨h7, h8, rfl⟩, hd'⟩⟩

/-! found_follows(width, walls, stricts, wall) -/
abbrev sJf : Stmt := top 31
theorem scJf : FnScope ["width", "walls", "stricts", "wall", "against", "found", "ss", "b", "m", "x"] ["width", "walls", "stricts", "wall"] (defScope sJf) := ⟨rfl, rfl, rfl, by decide +kernel, rfl, by decide +kernel, by decide +kernel⟩
def pcJf : List AD → (D → Prop) → Prop := fun ads R => ∃ (n : Nat) (a b : List (List Int)) (g : List Int), ads = [.dat (.int n), .dat (wallsD a), .dat (wallsD b), .dat (wallD g)] ∧ 2 ≤ n ∧ n ≤ 8 ∧ Okw n a ∧ Okw n b ∧ g.length = n ∧ SmW a ∧ SmW b ∧ (∀ x ∈ g, x.natAbs ≤ 2 ^ 40) ∧
  R = fun d => ∃ r : Res, GoodR n a (b ++ [boundW n, negL g]) r ∧ d = ansF a b r
theorem ok_Ff (m : Mg mg) (F : Fun K "found_follows" "found_follows" sJf f fd) (hBb : Has P w K mg base k "bound_border" (spD K pcBb)) (hJs : Has P w K mg base k "judge_signs" (spD K pcJs2)) :
    FnOk P w K mg base CX0 (k + 1) f fd ["width", "walls", "stricts", "wall"] (spD K pcJf) := by
  refine fn_mkD F scJf (fun ads R h => by obtain ⟨_, _, _, _, rfl, _⟩ := h; rfl) fun c ads R h hz => ?_
  obtain ⟨n, a, b, g, rfl, h2, h8, ha, hb, hg, sa, sb, sg, rfl⟩ := h
  have hasks := asks_of (by omega) h8 ha hb hg sa sb sg
  refine run_to (ds1 := [.dat (.int n), .dat (wallsD a), .dat (wallsD b), .dat (wallD g), .dat (wallD (negL g)), .un, .un, .un, .un, .un]) (rs_setP (i := 4) (P := (· = wallD (negL g))) (by walk_at "sto") ((ev_tupleL (l := (negL g).map PyData.int) rfl m.tuple ((ev_lc (ef_map [("x", 9)] (items := g.map PyData.int) (intF (- ·)) (by walk_at "blk") (wk_tup (by walk_at "var")) (tg_name (i := 9) (by walk_at "sto")) (by rw [List.length_map, hg]; exact Nat.le_trans h8 (by decide)) ?_)).is (by rw [map_intF]; rfl)))) (fun d hd => by subst hd; rfl)) ?_
  · intro d hd
    obtain ⟨x, hx, rfl⟩ := mem_int hd
    exact ⟨_, rfl, by simp, ev_neg (i := x) (by walk_at "var")⟩
  refine run_cons (Mid := fun ds' => ∃ r : Res, GoodR n a (b ++ [boundW n, negL g]) r ∧ ds' = [.dat (.int n), .dat (wallsD a), .dat (wallsD b), .dat (wallD g), .dat (wallD (negL g)), .dat (r.d a.length), .un, .un, .un, .un])
    (rs_setP (i := 5) (P := fun d => ∃ r : Res, GoodR n a (b ++ [boundW n, negL g]) r ∧ d = r.d a.length) (by walk_at "sto") (ev_callD (PA := (· = [.dat (.int n), .dat (wallsD a), .dat (wallsD (b ++ [boundW n, negL g]))])) (Pc := pcJs2) ⟨hJs⟩ rfl
      (ed_dat (by walk_at "var") (ed_dat (by walk_at "var") (ed_dat (ev_tupP (ea_star (m := b.map wallD) (R := (· = [wallD (boundW n), wallD (negL g)])) (d := wallsD b) (by walk_at "var") (Or.inr rfl) (ea_cons (ev_callD (PA := (· = [.dat (.int n)])) (P := (· = wallD (boundW n))) (Pc := pcBb) ⟨hBb⟩ rfl (ed_dat (by walk_at "var") ed_nil) (fun l hl => ⟨_, ⟨n, hl, by omega, by omega, rfl⟩, fun d hd => hd⟩)) (ea_cons (by walk_at "var") ea_nil)))
        (fun l hl => by obtain ⟨l', rfl, rfl⟩ := hl; have := hb.few; simp; show _ ≤ 100000; omega) (fun l hl => by obtain ⟨l', rfl, rfl⟩ := hl; unfold wallsD; rw [List.map_append]; rfl)) ed_nil)))
      (fun l hl => ⟨_, ⟨n, a, _, hl, hasks, rfl⟩, fun d hd => hd⟩)) (fun d hd => by obtain ⟨r, hr, rfl⟩ := hd; exact ⟨r, hr, rfl⟩)) ?_
  rintro ds' ⟨r, hr, rfl⟩
  cases r with
  | point p =>
    refine run_cons (Mid := fun _ => False) (rs_if (et_eq (d := .str "point") (e := .str "point") (ev_ixT (l := [.str "point", wallD p]) (by walk_at "var") ev_int rfl) ev_str (by decide +kernel) (by decide +kernel)) (fun _ => run_one (rs_ret (d := (Res.point p).d a.length) (by walk_at "var") ⟨_, hr, rfl⟩)) (fun h => absurd h (by decide +kernel))) (fun _ h => h.elim)
  | sum ws =>
    have hwl : ws.length = a.length + (b.length + 2) := by have := hr.1.1; simpa using this
    have hdl : (ws.drop a.length).length = b.length + 2 := by rw [List.length_drop]; omega
    refine run_to (rs_if (et_eq (d := .str "sum") (e := .str "point") (ev_ixT (l := [.str "sum", wallD (ws.take a.length), wallD (ws.drop a.length)]) (by walk_at "var") ev_int rfl) ev_str (by decide +kernel) (by decide +kernel)) (fun h => absurd h (by decide +kernel)) (fun _ => run_nil rfl)) ?_
    refine run_to (ds1 := [.dat (.int n), .dat (wallsD a), .dat (wallsD b), .dat (wallD g), .dat (wallD (negL g)), .dat ((Res.sum ws).d a.length), .dat (.list (((ws.drop a.length).take b.length).map PyData.int)), .dat (.int ((ws.drop a.length).getD b.length 0)), .dat (.int ((ws.drop a.length).getD (b.length + 1) 0)), .un])
      (rs_star2 (i := 6) (j := 7) (m := 8) (P := (· = wallD (ws.drop a.length))) (by walk_at "sto") (by walk_at "sto") (by walk_at "sto") (ev_ixT (l := [.str "sum", wallD (ws.take a.length), wallD (ws.drop a.length)]) (by walk_at "var") ev_int rfl)
        (fun d hd => ⟨((ws.drop a.length).take b.length).map PyData.int, .int ((ws.drop a.length).getD b.length 0), .int ((ws.drop a.length).getD (b.length + 1) 0), by
          rw [hd]; unfold wallD
          conv => lhs; rw [split2 hdl]
          rw [List.map_append]; rfl, by rw [List.length_map, List.length_take]; have := hb.few; omega, rfl⟩)) ?_
    refine run_one (rs_ret (d := ansF a b (.sum ws)) (ev_tup (ea_cons ev_str (ea_cons (by walk_at "var") (ea_cons (ev_ixT (l := [.str "sum", wallD (ws.take a.length), wallD (ws.drop a.length)]) (by walk_at "var") ev_int rfl) (ea_cons (ev_tupleL (l := ((ws.drop a.length).take b.length).map PyData.int) rfl m.tuple (by walk_at "var")) (ea_cons (by walk_at "var") ea_nil))))) (hl := by show 5 ≤ 100000; decide)) ⟨_, hr, rfl⟩)
/-! judge_follows(width, walls, stricts, wall) -/
abbrev sJq : Stmt := top 30
theorem scJq : FnScope ["width", "walls", "stricts", "wall"] ["width", "walls", "stricts", "wall"] (defScope sJq) := ⟨rfl, rfl, rfl, by decide +kernel, rfl, by decide +kernel, by decide +kernel⟩
theorem ok_Jf (F : Fun K "judge_follows" "judge_follows" sJq f fd) (hDq : Has P w K mg base k "demand_question" (spD K pcDq)) (hFf : Has P w K mg base k "found_follows" (spD K pcJf)) :
    FnOk P w K mg base CX0 (k + 1) f fd ["width", "walls", "stricts", "wall"] (spD K pcJf) := by
  refine fn_mkD F scJq (fun ads R h => by obtain ⟨_, _, _, _, rfl, _⟩ := h; rfl) fun c ads R h hz => ?_
  obtain ⟨n, a, b, g, rfl, h2, h8, ha, hb, hg, sa, sb, sg, rfl⟩ := h
  refine run_to (rs_expr (P := (· = .none)) (ev_callD (PA := (· = [.dat (.int n), .dat (wallsD a), .dat (wallsD b), .dat (wallD g)])) (Pc := pcDq) ⟨hDq⟩ rfl (ed_dat (by walk_at "var") (ed_dat (by walk_at "var") (ed_dat (by walk_at "var") (ed_dat (by walk_at "var") ed_nil)))) (fun l hl => ⟨_, ⟨n, a, b, g, hl, h2, h8, ha, hb, hg, rfl⟩, fun d hd => hd⟩)) rfl) ?_
  exact run_one (rs_retP (P := fun d => ∃ r : Res, GoodR n a (b ++ [boundW n, negL g]) r ∧ d = ansF a b r) (ev_callD (PA := (· = [.dat (.int n), .dat (wallsD a), .dat (wallsD b), .dat (wallD g)])) (Pc := pcJf) ⟨hFf⟩ rfl (ed_dat (by walk_at "var") (ed_dat (by walk_at "var") (ed_dat (by walk_at "var") (ed_dat (by walk_at "var") ed_nil))))
      (fun l hl => ⟨_, ⟨n, a, b, g, hl, h2, h8, ha, hb, hg, sa, sb, sg, rfl⟩, fun d hd => hd⟩)) (fun d hd => hd))
end

end K8

set_option Elab.async false
set_option maxRecDepth 100000
set_option exponentiation.threshold 2000
set_option linter.all false
set_option maxHeartbeats 1000000
namespace K8
open PySem L2 Dl
local macro_rules | `(tactic| walk_at "vis") => `(tactic| first | exact Or.inl rfl | exact Or.inr (Or.inl rfl) | exact Or.inr (Or.inr rfl))
local macro_rules | `(tactic| walk_at "sto") => `(tactic| first | exact ⟨rfl, Or.inl rfl, Or.inl rfl⟩ | exact ⟨rfl, Or.inl rfl, Or.inr rfl⟩ | exact ⟨rfl, Or.inr rfl, Or.inl rfl⟩)
local macro_rules | `(tactic| walk_at "var") => `(tactic| first
  | exact ev_var 0 rfl (by walk_at "vis") rfl | exact ev_var 1 rfl (by walk_at "vis") rfl | exact ev_var 2 rfl (by walk_at "vis") rfl | exact ev_var 3 rfl (by walk_at "vis") rfl
  | exact ev_var 4 rfl (by walk_at "vis") rfl | exact ev_var 5 rfl (by walk_at "vis") rfl | exact ev_var 6 rfl (by walk_at "vis") rfl | exact ev_var 7 rfl (by walk_at "vis") rfl
  | exact ev_var 8 rfl (by walk_at "vis") rfl | exact ev_var 9 rfl (by walk_at "vis") rfl | exact ev_var 10 rfl (by walk_at "vis") rfl | exact ev_var 11 rfl (by walk_at "vis") rfl
  | exact ev_var 12 rfl (by walk_at "vis") rfl | exact ev_var 13 rfl (by walk_at "vis") rfl | exact ev_var 14 rfl (by walk_at "vis") rfl | exact ev_var 15 rfl (by walk_at "vis") rfl)

local macro_rules | `(tactic| walk_at "ev") => `(tactic| first
  | exact ev_int | exact ev_bl | exact ev_str | exact ev_non
  | walk_at "var"
  | (refine ev_neg ?_ <;> walk_at "ev")
  | (refine ev_add ?_ ?_ <;> walk_at "ev")
  | (refine ev_sub ?_ ?_ <;> walk_at "ev"))

local macro_rules | `(tactic| walk_at "blk") => `(tactic| (dsimp only; decide +kernel))
open Classical in
noncomputable def fol (n : Nat) (a b : List (List Int)) (g : List Int) : Bool := decide (Follows n a b g)
theorem fol_sum {n : Nat} {a b : List (List Int)} {g ws : List Int} (h1 : 1 ≤ n) (h : Good n a (b ++ [boundW n, negL g]) (.sum ws)) : fol n a b g = true := by
  unfold fol; exact @decide_eq_true _ (Classical.propDecidable _) ((good_follows h1 h).1 ws rfl)
theorem fol_point {n : Nat} {a b : List (List Int)} {g p : List Int} (h1 : 1 ≤ n) (h : Good n a (b ++ [boundW n, negL g]) (.point p)) : fol n a b g = false := by
  unfold fol
  have ⟨hk, hd⟩ := (good_follows h1 h).2 p rfl
  exact @decide_eq_false _ (Classical.propDecidable _) (fun hf => by have := hf p hk; omega)
section
variable {P : Program} {w : World} {K : Frag} {mg : Str → Option Value} {base : Heap} {k : Nat} {f : Addr} {fd : FuncData}
/-! does_follow(width, walls, stricts, wall) -/
abbrev sDf : Stmt := top 32
theorem scDf : FnScope ["width", "walls", "stricts", "wall"] ["width", "walls", "stricts", "wall"] (defScope sDf) := ⟨rfl, rfl, rfl, by decide +kernel, rfl, by decide +kernel, by decide +kernel⟩
def pcDf : List AD → (D → Prop) → Prop := fun ads R => ∃ (n : Nat) (a b : List (List Int)) (g : List Int), ads = [.dat (.int n), .dat (wallsD a), .dat (wallsD b), .dat (wallD g)] ∧ 2 ≤ n ∧ n ≤ 8 ∧ Okw n a ∧ Okw n b ∧ g.length = n ∧ SmW a ∧ SmW b ∧ (∀ x ∈ g, x.natAbs ≤ 2 ^ 40) ∧
  R = (· = .bool (fol n a b g))
theorem ok_Df (F : Fun K "does_follow" "does_follow" sDf f fd) (hJf : Has P w K mg base k "judge_follows" (spD K pcJf)) :
    FnOk P w K mg base CX0 (k + 1) f fd ["width", "walls", "stricts", "wall"] (spD K pcDf) := by
  refine fn_mkD F scDf (fun ads R h => by obtain ⟨_, _, _, _, rfl, _⟩ := h; rfl) fun c ads R h hz => ?_
  obtain ⟨n, a, b, g, rfl, h2, h8, ha, hb, hg, sa, sb, sg, rfl⟩ := h
  refine run_one (rs_retP (P := (· = .bool (fol n a b g))) (ev_eqP (PA := fun d => (d = .str "point" ∧ fol n a b g = false) ∨ (d = .str "weights" ∧ fol n a b g = true)) (PB := (· = .str "weights"))
    (ev_ixP (PA := fun d => ∃ r : Res, GoodR n a (b ++ [boundW n, negL g]) r ∧ d = ansF a b r) (PB := (· = .int 0)) (ev_callD (PA := (· = [.dat (.int n), .dat (wallsD a), .dat (wallsD b), .dat (wallD g)])) (Pc := pcJf) ⟨hJf⟩ rfl (ed_dat (by walk_at "var") (ed_dat (by walk_at "var") (ed_dat (by walk_at "var") (ed_dat (by walk_at "var") ed_nil))))
      (fun l hl => ⟨_, ⟨n, a, b, g, hl, h2, h8, ha, hb, hg, sa, sb, sg, rfl⟩, fun d hd => hd⟩)) ev_int ?_) ev_str ?_) (fun d hd => hd))
  · rintro x y ⟨r, hr, rfl⟩ rfl
    cases r with
    | point p => exact ⟨_, 0, .str "point", rfl, .inr rfl, rfl, .inl ⟨rfl, fol_point (by omega) hr.1⟩⟩
    | sum ws => exact ⟨_, 0, .str "weights", rfl, .inr rfl, rfl, .inr ⟨rfl, fol_sum (by omega) hr.1⟩⟩
  · rintro d e h rfl
    rcases h with ⟨rfl, h⟩ | ⟨rfl, h⟩
    · refine ⟨by decide +kernel, by decide +kernel, ?_⟩
      rw [h]; congr 1
    · refine ⟨by decide +kernel, by decide +kernel, ?_⟩
      rw [h]; congr 1

end

end K8

set_option Elab.async false
set_option maxRecDepth 100000
set_option linter.all false
set_option maxHeartbeats 2000000
namespace Dl
open PySem PySem.Spec PyProof.Rows L2
section
variable {K : Frag} {Z : Zone} {G0 H0 G H : Hp} {σ : L2.St} {ds : List SD}
theorem State.deckAt (s : State K Z G0 H0 G H σ ds) {dk cc : Addr} (hz : Z.deck = some (dk, cc)) : G dk = none ∧ G cc = none ∧ dk ≠ cc ∧ ∃ (cells : List Int) (mixed draws : Int), cells.length ≤ 64 ∧ 0 ≤ mixed ∧ mixed < 2147483587 ∧ 0 ≤ draws ∧
      H dk = some (deckO cc mixed draws) ∧ H cc = some (.lst (cells.map V.int)) := by
  have h := s.deck
  unfold DeckIn at h
  rw [hz] at h
  exact h
theorem State.deckPut (s : State K Z G0 H0 G H σ ds) {p : Addr} {o : HO} (hin : inDeck Z p) (hd : DeckIn Z G (upd H p o)) : State K Z G0 H0 G (upd H p o) σ ds ∧ Gr Z G H G (upd H p o) := by
  have hn := s.deck.ne hin
  refine ⟨⟨s.ex.mut hn.2, s.exg, s.nw, fun a u h1 h2 => ?_, hd, s.len, fun q hq z => ?_, fun i sd h => ?_, s.dist⟩, Ex.refl G, fun a u h1 h2 => ?_, fun q h => .inl h, fun q h z => ?_⟩
  · rw [upd_ne (fun e => h2 (.inl (by rw [e]; exact hin)))]; exact s.exm a u h1 h2
  · by_cases e : q = p
    · rw [e, upd_same] at z; cases z
    · rw [upd_ne e] at z; exact s.giv q hq z
  · have q := s.slots i sd h
    cases sd with
    | un => trivial
    | dat d => exact q
    | own l =>
      obtain ⟨r, xs, e1, h1, h2, h3, h4, h5, h6⟩ := q
      exact ⟨r, xs, e1, h1, h2, h3, h4, by rw [upd_ne (fun e => h3 (by rw [e]; exact hin))]; exact h5, h6⟩
    | deck => exact q
    | raw v => exact q
  · rw [upd_ne (fun e => h2 (by rw [e]; exact hin))]; exact h1
  · by_cases e : q = p
    · rw [e, upd_same] at z; cases z
    · rw [upd_ne e] at z; exact h z
theorem State.deckCells (s : State K Z G0 H0 G H σ ds) {dk cc : Addr} (hz : Z.deck = some (dk, cc)) {cells : List Int} (hl : cells.length ≤ 64) :
    State K Z G0 H0 G (upd H cc (.lst (cells.map V.int))) σ ds ∧ Gr Z G H G (upd H cc (.lst (cells.map V.int))) := by
  obtain ⟨d1, d2, d3, cells', mixed, draws, b1, b2, b3, b4, k1, k2⟩ := s.deckAt hz
  refine s.deckPut (by unfold inDeck; rw [hz]; exact .inr rfl) ?_
  unfold DeckIn; rw [hz]
  exact ⟨d1, d2, d3, cells, mixed, draws, hl, b2, b3, b4, by rw [upd_ne d3]; exact k1, upd_same⟩
theorem State.deckDraws (s : State K Z G0 H0 G H σ ds) {dk cc : Addr} (hz : Z.deck = some (dk, cc)) {mixed draws draws' : Int} (hd : H dk = some (deckO cc mixed draws)) (h0 : 0 ≤ draws') :
    State K Z G0 H0 G (upd H dk (deckO cc mixed draws')) σ ds ∧ Gr Z G H G (upd H dk (deckO cc mixed draws')) := by
  obtain ⟨d1, d2, d3, cells', mixed', draws2, b1, b2, b3, b4, k1, k2⟩ := s.deckAt hz
  have e : mixed' = mixed := by
    rw [hd] at k1; unfold deckO at k1; simp at k1; exact k1.1.symm
  subst e
  refine s.deckPut (by unfold inDeck; rw [hz]; exact .inl rfl) ?_
  unfold DeckIn; rw [hz]
  exact ⟨d1, d2, d3, cells', mixed', draws', b1, b2, b3, h0, upd_same, by rw [upd_ne (Ne.symm d3)]; exact k2⟩
end

section
variable {I : Inf} {c : Ct} {ds : List SD} {A : After} {a b e : Expr} {P PA PB : D → Prop} {pos : Pos} {d : D}
theorem S.deckSlot {σ : L2.St} {G H : Hp} (s : S I c G H σ ds) {i : Nat} (hd : ds[i]? = some .deck) : ∃ dk cc, c.Z.deck = some (dk, cc) ∧ σ[i]? = some (some (.ref dk)) := by
  obtain ⟨dk, cc, hz, e1⟩ := s.slots i _ hd
  refine ⟨dk, cc, hz, ?_⟩
  cases z : σ[i]? with
  | none => rw [z] at e1; cases e1
  | some o => rw [z] at e1; simpa using e1
theorem val_cells {cc : Addr} {m d : Int} : valV [(Sum.inr ("cells" : Str), V.ref cc), (Sum.inr ("mixed" : Str), V.int m), (Sum.inr ("draws" : Str), V.int d)] (Sum.inr ("cells" : Str) : L2.Key) = some (.ref cc) := rfl
theorem val_mixed {cc : Addr} {m d : Int} : valV [(Sum.inr ("cells" : Str), V.ref cc), (Sum.inr ("mixed" : Str), V.int m), (Sum.inr ("draws" : Str), V.int d)] (Sum.inr ("mixed" : Str) : L2.Key) = some (.int m) := rfl
theorem val_draws {cc : Addr} {m d : Int} : valV [(Sum.inr ("cells" : Str), V.ref cc), (Sum.inr ("mixed" : Str), V.int m), (Sum.inr ("draws" : Str), V.int d)] (Sum.inr ("draws" : Str) : L2.Key) = some (.int d) := rfl
theorem put_draws {cc : Addr} {m d : Int} {v : V} : putK [(Sum.inr ("cells" : Str), V.ref cc), (Sum.inr ("mixed" : Str), V.int m), (Sum.inr ("draws" : Str), V.int d)] (Sum.inr ("draws" : Str) : L2.Key) v = [(Sum.inr ("cells" : Str), V.ref cc), (Sum.inr ("mixed" : Str), V.int m), (Sum.inr ("draws" : Str), v)] := rfl
/-- what the deck holds under "mixed" and "draws" -/
theorem ev_deckD (i : Nat) {x : Str} {p p1 : Pos} {j} (hN : I.N[i]? = some x) (hv : Vis I.sc x) (hd : ds[i]? = some .deck)
    (h1 : (x == ("__debug__" : Str)) = false := by decide) (h2 : (x == ("__classdict__" : Str)) = false := by decide) :
    EvE I c (.Subscript (.Name x p) (.Constant (.str ("draws" : Str)) j p1) pos) ds (IsI (0 ≤ ·)) := fun X F σ G H s Q k => by
  refine w_pe (pe_dget (Nat.lt_of_le_of_lt (Nat.add_le_add_left (by decide : 1 ≤ 64) _) F.room.units) (pe_var (i := i) (by rw [F.N]; exact hN) (by rw [F.sc]; exact hv) h1 h2) pe_str (fun _ _ => rfl)) ?_
  obtain ⟨dk, cc, hz, e1⟩ := s.deckSlot hd
  obtain ⟨d1, d2, d3, cells, mixed, draws, b1, b2, b3, b4, k1, k2⟩ := State.deckAt s hz
  have g : DGet H dk (.str ("draws" : Str)) (some (.int draws)) := by
    have := DGet.k (k := (Sum.inr ("draws" : Str) : L2.Key)) k1
    rw [val_draws] at this; exact this
  exact ⟨_, e1, dk, .int draws, rfl, g, k.now s .int ⟨_, rfl, b4⟩⟩
theorem ev_deckM (i : Nat) {x : Str} {p p1 : Pos} {j} (hN : I.N[i]? = some x) (hv : Vis I.sc x) (hd : ds[i]? = some .deck)
    (h1 : (x == ("__debug__" : Str)) = false := by decide) (h2 : (x == ("__classdict__" : Str)) = false := by decide) :
    EvE I c (.Subscript (.Name x p) (.Constant (.str ("mixed" : Str)) j p1) pos) ds (IsI (0 ≤ ·)) := fun X F σ G H s Q k => by
  refine w_pe (pe_dget (Nat.lt_of_le_of_lt (Nat.add_le_add_left (by decide : 1 ≤ 64) _) F.room.units) (pe_var (i := i) (by rw [F.N]; exact hN) (by rw [F.sc]; exact hv) h1 h2) pe_str (fun _ _ => rfl)) ?_
  obtain ⟨dk, cc, hz, e1⟩ := s.deckSlot hd
  obtain ⟨d1, d2, d3, cells, mixed, draws, b1, b2, b3, b4, k1, k2⟩ := State.deckAt s hz
  have g : DGet H dk (.str ("mixed" : Str)) (some (.int mixed)) := by
    have := DGet.k (k := (Sum.inr ("mixed" : Str) : L2.Key)) k1
    rw [val_mixed] at this; exact this
  exact ⟨_, e1, dk, .int mixed, rfl, g, k.now s .int ⟨_, rfl, b2⟩⟩
/-- one factor is small -/
theorem ev_mulS {p q r : Int → Prop} (ha : EvE I c a ds (IsI p)) (hb : EvE I c b ds (IsI q)) (hc : ∀ i j, p i → q j → CMul i j) (h : ∀ i j, p i → q j → r (i * j)) : EvE I c (.BinOp a .Mult b pos) ds (IsI r) :=
  ev_op (fun _ _ => op_mul) ha hb fun d e ⟨i, hi, pi⟩ ⟨j, hj, qj⟩ => by rw [hi, hj]; exact rv_I (hc i j pi qj) ⟨_, rfl, h i j pi qj⟩
theorem ev_modP {p q r : Int → Prop} (ha : EvE I c a ds (IsI p)) (hb : EvE I c b ds (IsI q)) (hc : ∀ i j, p i → q j → 0 < j) (h : ∀ i j, p i → q j → r (i % j)) : EvE I c (.BinOp a .Mod b pos) ds (IsI r) :=
  ev_op (fun _ _ => op_mod) ha hb fun d e ⟨i, hi, pi⟩ ⟨j, hj, qj⟩ => by rw [hi, hj]; exact rv_I (hc i j pi qj) ⟨_, rfl, h i j pi qj⟩
theorem ev_divP {p q r : Int → Prop} (ha : EvE I c a ds (IsI p)) (hb : EvE I c b ds (IsI q)) (hc : ∀ i j, p i → q j → CDivW i j) (h : ∀ i j, p i → q j → r (i / j)) : EvE I c (.BinOp a .FloorDiv b pos) ds (IsI r) :=
  ev_op (fun _ _ => op_fdivW) ha hb fun d e ⟨i, hi, pi⟩ ⟨j, hj, qj⟩ => by rw [hi, hj]; exact rv_I (hc i j pi qj) ⟨_, rfl, h i j pi qj⟩
/-- d['draws'] = n -/
theorem rs_deckSet {i : Nat} {x : Str} {p p1 p2 : Pos} {j} (hN : I.N[i]? = some x) (hv : Vis I.sc x) (hd : ds[i]? = some .deck) (h : EvE I c e ds (IsI (0 ≤ ·))) (hn : A.nx ds)
    (h1 : (x == ("__debug__" : Str)) = false := by decide) (h2 : (x == ("__classdict__" : Str)) = false := by decide)
    (hs : ∀ X, Fits I X → swapsWithSole [.Subscript (.Name x p) (.Constant (.str ("draws" : Str)) j p1) p2] e pos.line X.env = pure false := by intros; rfl)
    (hw : ∀ X, Fits I X → swappedStores [.Subscript (.Name x p) (.Constant (.str ("draws" : Str)) j p1) p2] e X.env = pure none := by intros; rfl)
    (ht : ∀ X, Fits I X → (assignEach [.Subscript (.Name x p) (.Constant (.str ("draws" : Str)) j p1) p2] X.env).map (·.2) = [assign (.Subscript (.Name x p) (.Constant (.str ("draws" : Str)) j p1) p2) X.env] := by intros; rfl) :
    RunS I c (.Assign [.Subscript (.Name x p) (.Constant (.str ("draws" : Str)) j p1) p2] e pos) ds A := fun X F σ G H E s k => by
  refine w_ps (ps_asg pe_w (pg_sub (pe_var (i := i) (by rw [F.N]; exact hN) (by rw [F.sc]; exact hv) h1 h2) pe_str (set_dict (Nat.lt_of_le_of_lt (Nat.add_le_add_left (by decide : 1 ≤ 64) _) F.room.units))) (hs X F) (hw X F) (ht X F)) ?_
  refine h X F σ G H s _ fun v G1 H1 d x1 s1 r1 p1 => ?_
  obtain ⟨n, rfl, hn0⟩ := p1
  rw [r1.int']
  obtain ⟨dk, cc, hz, e1⟩ := s1.deckSlot hd
  obtain ⟨d1, d2, d3, cells, mixed, draws, b1, b2, b3, b4, k1, k2⟩ := State.deckAt s1 hz
  obtain ⟨s2, g2⟩ := State.deckDraws s1 hz k1 hn0
  have g : DPut H1 dk (.str ("draws" : Str)) (.int n) (upd H1 dk (deckO cc mixed n)) := by
    have := DPut.k (k := (Sum.inr ("draws" : Str) : L2.Key)) (v := .int n) k1 (by show 3 < sizeLine; decide)
    rw [put_draws] at this; exact this
  exact ⟨_, e1, dk, _, rfl, g, k.nx σ G1 _ ds x1.g s2 hn⟩
end
end Dl


set_option Elab.async false
set_option maxRecDepth 100000
set_option linter.all false
set_option maxHeartbeats 2000000
namespace Dl
open PySem PySem.Spec PyProof.Rows L2
theorem shaped_ints (ns : List Int) : SeqAt.shaped (.list (ns.map PyData.int)) = true := by
  have h1 : ∀ ns : List Int, PyData.canLayAll0 (ns.map PyData.int) = true := by
    intro ns
    induction ns with
    | nil => simp [PyData.canLayAll0]
    | cons n ns ih => simp [PyData.canLayAll0, PyData.canLay0, ih]
  have h2 := depth_ints ns
  unfold SeqAt.shaped
  simp only [PyData.canLay0, h1, Bool.true_and, decide_eq_true_eq]
  simp only [PyData.depth]; omega
theorem eqv_nil (ns : List Int) : PyData.eqv (.list (ns.map PyData.int)) (.list []) = decide (ns = []) := by
  cases ns with
  | nil => simp [PyData.eqv, PyData.eqvAll]
  | cons n ns => simp [PyData.eqv, PyData.eqvAll]
section
variable {I : Inf} {c : Ct} {ds : List SD} {A : After} {d : D}
theorem pe_deck {X : Cx} {i : Nat} {x key : Str} {p p1 p2 : Pos} {j} (F : Fits I X) (hN : I.N[i]? = some x) (hv : Vis I.sc x) (h1 : (x == ("__debug__" : Str)) = false) (h2 : (x == ("__classdict__" : Str)) = false) :
    PE X (.Subscript (.Name x p) (.Constant (.str key) j p1) p2) (tDGet (tVar i) (tC (.str key))) :=
  pe_dget (Nat.lt_of_le_of_lt (Nat.add_le_add_left (by decide : 1 ≤ 64) _) F.room.units) (pe_var (i := i) (by rw [F.N]; exact hN) (by rw [F.sc]; exact hv) h1 h2) pe_str (fun _ _ => rfl)
theorem at_cells {H : Hp} {dk cc : Addr} {mixed draws : Int} (k1 : H dk = some (deckO cc mixed draws)) : DGet H dk (.str ("cells" : Str)) (some (.ref cc)) := by
  have := DGet.k (k := (Sum.inr ("cells" : Str) : L2.Key)) k1
  rw [val_cells] at this; exact this
/-- the part of the draw that looks at the cells -/
theorem rs_ifDraw {i iy iz n : Nat} {x y z : Str} {q1 q2 q3 q4 q5 q6 q7 q8 q9 r1 r2 r3 r4 r5 r6 r7 r8 r9 u1 u2 u3 u4 u5 u6 u7 u8 u9 w1 w3 w4 w5 : Pos} {j1 j2 j3 j4 j5 j6} {rest1 rest2 : List Stmt}
    (hN : I.N[i]? = some x) (hv : Vis I.sc x) (hd : ds[i]? = some .deck) (hy : Sto I iy y) (hvy : Vis I.sc y) (hNz : I.N[iz]? = some z) (hvz : Vis I.sc z) (hz : ds[iz]? = some (.dat (.int n))) (hn : n < 2 ^ 100) (hi1 : iy ≠ i) (hi2 : iy ≠ iz) (hly : iy < ds.length)
    (hg : I.sc.names.lookup ("max" : Str) = some .globalImplicit) (hm : I.mg "max" = none)
    (h1 : ∀ m : Int, Run I c rest1 (ds.set iy (.dat (.int m))) { A with nx := fun _ => False }) (h2 : ∀ m : Int, Run I c rest2 (ds.set iy (.dat (.int m))) A) (h3 : A.nx ds)
    (hx1 : (x == ("__debug__" : Str)) = false := by decide) (hx2 : (x == ("__classdict__" : Str)) = false := by decide)
    (hy1 : (y == ("__debug__" : Str)) = false := by decide) (hy2 : (y == ("__classdict__" : Str)) = false := by decide)
    (hz1 : (z == ("__debug__" : Str)) = false := by decide) (hz2 : (z == ("__classdict__" : Str)) = false := by decide)
    (e1 : ∀ X, Fits I X → swapsWith (.Call (.Attribute (.Subscript (.Name x q6) (.Constant (.str ("cells" : Str)) j2 q7) q8) ("pop" : Str) q9) [] [] r1) (some (.Name y q5)) r2.line X.env = pure false := by intros; rfl)
    (e2 : ∀ X, Fits I X → attributeBase (.Subscript (.Name x q6) (.Constant (.str ("cells" : Str)) j2 q7) q8) ("pop" : Str) X.env (eval (.Subscript (.Name x q6) (.Constant (.str ("cells" : Str)) j2 q7) q8) X.env) = eval (.Subscript (.Name x q6) (.Constant (.str ("cells" : Str)) j2 q7) q8) X.env := by intros; rfl)
    (e3 : (q9.endLine == r1.line) = true := by rfl) (e4 : (u4.endLine == w3.line) = true := by rfl)
    (e5 : ∀ X, Fits I X → swapsWith (.Call (.Attribute (.Subscript (.Name x u1) (.Constant (.str ("cells" : Str)) j5 u2) u3) ("append" : Str) u4) [.BinOp (.Name y u5) .FloorDiv (.Call (.Name "max" u6) [.Constant (.int 2) j6 u7, .Name z u8] [] u9) w1] [] w3) none w4.line X.env = pure false := by intros; rfl)
    (e6 : ∀ X, Fits I X → attributeBase (.Subscript (.Name x u1) (.Constant (.str ("cells" : Str)) j5 u2) u3) ("append" : Str) X.env (eval (.Subscript (.Name x u1) (.Constant (.str ("cells" : Str)) j5 u2) u3) X.env) = eval (.Subscript (.Name x u1) (.Constant (.str ("cells" : Str)) j5 u2) u3) X.env := by intros; rfl)
    (e7 : ∀ X, Fits I X → ((((backTo w3 (starEach [.BinOp (.Name y u5) .FloorDiv (.Call (.Name "max" u6) [.Constant (.int 2) j6 u7, .Name z u8] [] u9) w1] X.env)).all fun x => !x.fst) && (backToKw w3 (keywordEach [] X.env)).all fun x => x.fst.isSome) && decide (([Expr.BinOp (.Name y u5) .FloorDiv (.Call (.Name "max" u6) [.Constant (.int 2) j6 u7, .Name z u8] [] u9) w1].length + ([] : List Keyword).length + if ([] : List Keyword).isEmpty = true then 0 else 1) < 30)) = true := by intros; rfl) :
    RunS I c (.If (.Compare (.Subscript (.Name x q1) (.Constant (.str ("cells" : Str)) j1 q2) q3) [.NotEq] [.List [] q4] r3)
      (.Assign [.Name y q5] (.Call (.Attribute (.Subscript (.Name x q6) (.Constant (.str ("cells" : Str)) j2 q7) q8) ("pop" : Str) q9) [] [] r1) r2
        :: .If (.Compare (.Name y r4) [.GtE] [.BinOp (.Constant (.int 10) j3 r5) .Pow (.Constant (.int 18) j4 r6) r7] r8)
             (.Expr (.Call (.Attribute (.Subscript (.Name x u1) (.Constant (.str ("cells" : Str)) j5 u2) u3) ("append" : Str) u4) [.BinOp (.Name y u5) .FloorDiv (.Call (.Name "max" u6) [.Constant (.int 2) j6 u7, .Name z u8] [] u9) w1] [] w3) w4 :: rest1) [] r9
        :: rest2) [] w5) ds A := fun X F σ G H E s k => by
  have hb : bootBuiltins ("max" : Str) = some (.builtin "max") := by decide +kernel
  have hND : X.N.Nodup := by rw [F.N]; exact F.nd
  have hNy : X.N[iy]? = some y := by rw [F.N]; exact hy.at_
  have hvy' : Vis X.env.scope y := by rw [F.sc]; exact hvy
  refine w_ps (ps_if (pt_cmpR (op_neD F.room.units) (pe_deck F hN hv hx1 hx2) (pe_lst pa_nil) (nobehind _ (by decide) (by decide)))
    (pss_cons (ps_set (i := iy) hND hNy (by rw [F.sc]; exact hy.loc) (pe_bm0 PySem.F.plainAttrs_list PySem.F.slot_list_pop PySem.F.type_list_pop mt_pop (pe_deck F hN hv hx1 hx2) (e2 X F) e3) (e1 X F) (hy.fn F))
      (pss_cons (ps_if (pt_cmpR op_ge (pe_var (i := iy) hNy hvy' hy1 hy2) (pe_op op_pow pe_int pe_int) (nobehind _ (by decide) (by decide)))
        (pss_cons (ps_expr (pe_bm PySem.F.plainAttrs_list PySem.F.slot_list_append PySem.F.type_list_append mt_append (pe_deck F hN hv hx1 hx2)
          (pa_cons (pe_op op_fdivW (pe_var (i := iy) hNy hvy' hy1 hy2) (pe_callB (call_max2 F.calm) (by show X.env.scope.names.lookup _ = _; rw [F.sc]; exact hg) (by rw [F.mg]; exact hm) hb (pa_cons pe_int (pa_cons (pe_var (i := iz) (by rw [F.N]; exact hNz) (by rw [F.sc]; exact hvz) hz1 hz2) pa_nil)))) pa_nil)
          (e6 X F) (e7 X F) e4) (e5 X F)) pss_w) pss_nil) pss_w)) pss_nil) ?_
  obtain ⟨dk, cc, hzk, hsl⟩ := s.deckSlot hd
  obtain ⟨d1, d2, d3, cells, mixed, draws, b1, b2, b3, b4, k1, k2⟩ := State.deckAt s hzk
  refine ⟨_, hsl, dk, .ref cc, rfl, at_cells k1, Nat.zero_le _, fun p np => ?_⟩
  have nc : cc ≠ p := fun e => by rw [e] at k2; rw [k2] at np; cases np
  have nd : dk ≠ p := fun e => by rw [e] at k1; rw [k1] at np; cases np
  have k1' : (upd H p (.lst [])) dk = some (deckO cc mixed draws) := by rw [upd_ne nd]; exact k1
  have k2' : (upd H p (.lst [])) cc = some (.lst (cells.map V.int)) := by rw [upd_ne nc]; exact k2
  have s2 : S I c G (upd H p (.lst [])) σ ds := State.aside s np
  generalize hH2 : upd H p (.lst []) = H2 at *
  refine ⟨.list (cells.map PyData.int), .list [], .lst (SqL.of k2') (dpAll_ints cells), .lst (SqL.of (by rw [← hH2]; exact upd_same)) .nil, shaped_ints _, by decide +kernel, _, rfl, ?_⟩
  rw [eqv_nil]
  by_cases hc : cells = []
  · have e0 : (!decide (cells = [])) = false := by simp [hc]
    rw [e0]
    exact iteF (k.nx σ G H2 ds (Ex.refl G) s2 h3)
  · have e0 : (!decide (cells = [])) = true := by simp [hc]
    rw [e0]
    refine iteT ?_
    have hne : cells.length ≠ 0 := fun e => hc (List.length_eq_zero_iff.mp e)
    refine ⟨_, hsl, dk, .ref cc, rfl, at_cells k1', .inl ⟨rfl, _, SqL.of k2'⟩, cc, cells.map V.int, .int (cells.getD (cells.length - 1) 0), rfl, rfl, k2', ?_, ?_⟩
    · rw [List.length_map, List.getElem?_map, List.getElem?_eq_getElem (by omega)]
      simp [List.getD, List.getElem?_eq_getElem (show cells.length - 1 < cells.length by omega)]
    generalize cells.getD (cells.length - 1) 0 = m
    rw [← List.map_dropLast]
    have hlen : cells.dropLast.length ≤ 63 := by rw [List.length_dropLast]; omega
    generalize cells.dropLast = cells2 at *
    obtain ⟨s3, g3⟩ := State.deckCells s2 hzk (cells := cells2) (by omega)
    have s4 := State.set s3 (i := iy) (v := .int m) (sd := .dat (.int m)) rfl ⟨_, rfl, by unfold Rp; rfl⟩
    generalize hH3 : upd H2 cc (.lst (cells2.map V.int)) = H3 at *
    have k3 : H3 cc = some (.lst (cells2.map V.int)) := by rw [← hH3]; exact upd_same
    have k4 : H3 dk = some (deckO cc mixed draws) := by rw [← hH3, upd_ne d3]; exact k1'
    have hsy : (σ.set iy (some (.int m)))[iy]? = some (some (.int m)) := by
      rw [List.getElem?_set_self]; rw [s.len]; exact hly
    have hsd : (σ.set iy (some (.int m)))[i]? = some (some (.ref dk)) := by rw [List.getElem?_set_ne hi1]; exact hsl
    have hsz : (σ.set iy (some (.int m)))[iz]? = some (some (.int n)) := by
      rw [List.getElem?_set_ne hi2]
      obtain ⟨v, ev, rv⟩ := s.slots iz _ hz
      rw [rv.int'] at ev
      cases zz : σ[iz]? with
      | none => rw [zz] at ev; cases ev
      | some o => rw [zz] at ev; simp at ev; rw [ev]
    refine ⟨_, hsy, 10, 18, rfl, rfl, ⟨by decide, by decide, by decide⟩, m, _, rfl, rfl, _, rfl, ?_⟩
    by_cases hm : (10 : Int) ^ (Int.toNat 18) ≤ m
    · have e0 : decide ((10 : Int) ^ (Int.toNat 18) ≤ m) = true := by simpa using hm
      rw [e0]
      refine iteT ?_
      refine ⟨_, hsd, dk, .ref cc, rfl, at_cells k4, .inl ⟨rfl, _, SqL.of k3⟩, _, hsy, _, hsz, 2, n, rfl, m, _, rfl, rfl, ?_, cc, _, _, rfl, rfl, k3, by rw [List.length_map]; exact Nat.lt_of_le_of_lt hlen (by decide), ?_⟩
      · refine wide_div (b := 101) ?_ ?_ (by decide) (by decide)
        · split <;> omega
        · split <;> omega
      · have s5 := (State.deckCells s4 hzk (cells := cells2 ++ [m / (if (n : Int) > 2 then (n : Int) else 2)]) (by rw [List.length_append]; simp; omega)).1
        rw [List.map_append] at s5
        exact h1 m X F _ G _ _ s5 ⟨fun _ _ _ _ _ _ z => z.elim, k.bk, k.ct, k.rt, k.ro, k.r3⟩
    · have e0 : decide ((10 : Int) ^ (Int.toNat 18) ≤ m) = false := by simpa using hm
      rw [e0]
      refine iteF ?_
      exact h2 m X F _ G _ E s4 k
end
end Dl


set_option Elab.async false
set_option maxRecDepth 100000
set_option exponentiation.threshold 2000
set_option linter.all false
set_option maxHeartbeats 1000000
namespace K8
open PySem L2 Dl
local macro_rules | `(tactic| walk_at "vis") => `(tactic| first | exact Or.inl rfl | exact Or.inr (Or.inl rfl) | exact Or.inr (Or.inr rfl))
local macro_rules | `(tactic| walk_at "sto") => `(tactic| first | exact ⟨rfl, Or.inl rfl, Or.inl rfl⟩ | exact ⟨rfl, Or.inl rfl, Or.inr rfl⟩ | exact ⟨rfl, Or.inr rfl, Or.inl rfl⟩)
local macro_rules | `(tactic| walk_at "var") => `(tactic| first
  | exact ev_var 0 rfl (by walk_at "vis") rfl | exact ev_var 1 rfl (by walk_at "vis") rfl | exact ev_var 2 rfl (by walk_at "vis") rfl | exact ev_var 3 rfl (by walk_at "vis") rfl
  | exact ev_var 4 rfl (by walk_at "vis") rfl | exact ev_var 5 rfl (by walk_at "vis") rfl | exact ev_var 6 rfl (by walk_at "vis") rfl | exact ev_var 7 rfl (by walk_at "vis") rfl
  | exact ev_var 8 rfl (by walk_at "vis") rfl | exact ev_var 9 rfl (by walk_at "vis") rfl | exact ev_var 10 rfl (by walk_at "vis") rfl | exact ev_var 11 rfl (by walk_at "vis") rfl
  | exact ev_var 12 rfl (by walk_at "vis") rfl | exact ev_var 13 rfl (by walk_at "vis") rfl | exact ev_var 14 rfl (by walk_at "vis") rfl | exact ev_var 15 rfl (by walk_at "vis") rfl)

local macro_rules | `(tactic| walk_at "ev") => `(tactic| first
  | exact ev_int | exact ev_bl | exact ev_str | exact ev_non
  | walk_at "var"
  | (refine ev_neg ?_ <;> walk_at "ev")
  | (refine ev_add ?_ ?_ <;> walk_at "ev")
  | (refine ev_sub ?_ ?_ <;> walk_at "ev"))

local macro_rules | `(tactic| walk_at "blk") => `(tactic| (dsimp only; decide +kernel))
section
variable {P : Program} {w : World} {K : Frag} {mg : Str → Option Value} {base : Heap} {k : Nat} {f : Addr} {fd : FuncData}
/-! _law_draw(deck, many) -/
abbrev sDraw : Stmt := top 35
theorem scDraw : FnScope ["_law_deck_here", "_law_many", "_law_number", "_law_cell"] ["_law_deck_here", "_law_many"] (defScope sDraw) := ⟨rfl, rfl, rfl, by decide +kernel, rfl, by decide +kernel, by decide +kernel⟩
def pcDraw : List AD → (D → Prop) → Prop := fun ads R => ∃ n : Nat, ads = [.deck, .dat (.int n)] ∧ 1 ≤ n ∧ n < 2 ^ 60 ∧ R = IsI (fun i => 0 ≤ i ∧ i < n)
theorem small_l {i j : Int} (h0 : 0 ≤ i) (h : i < 2 ^ 64) : CMul i j := .inl ⟨by omega, h⟩
theorem small_r {i j : Int} (h0 : 0 ≤ j) (h : j < 2 ^ 64) : CMul i j := .inr ⟨by omega, h⟩
theorem ok_Draw (m : Mg mg) (F : Fun K "_law_draw" "_law_draw" sDraw f fd) : FnOk P w K mg base CX0 (k + 1) f fd ["_law_deck_here", "_law_many"] (spD K pcDraw) := by
  refine fn_mkD F scDraw (fun ads R h => by obtain ⟨_, rfl, _⟩ := h; rfl) fun c ads R h hz => ?_
  obtain ⟨n, rfl, hn1, hn, rfl⟩ := h
  have hn2 : (n : Int) < 2 ^ 60 := by omega
  refine run_to (ds1 := [.deck, .dat (.int n), .un, .un]) (rs_deckSet (i := 0) rfl (by walk_at "vis") rfl (ev_addP (p := fun i => 0 ≤ i) (q := (· = 1)) (ev_deckD 0 rfl (by walk_at "vis") rfl) (ev_int.imp isI) (fun i j hi hj => by subst hj; omega)) rfl) ?_
  refine run_cons (Mid := fun ds' => ∃ a : Int, 0 ≤ a ∧ ds' = [.deck, .dat (.int n), .dat (.int a), .un]) (rs_setP (i := 2) (P := IsI (fun i => 0 ≤ i)) (by walk_at "sto")
    (ev_addP (p := fun i => 0 ≤ i) (q := fun i => 0 ≤ i) (ev_deckM 0 rfl (by walk_at "vis") rfl) (ev_mulS (p := (· = 61473)) (q := fun i => 0 ≤ i) (r := fun i => 0 ≤ i) (ev_int.imp isI) (ev_deckD 0 rfl (by walk_at "vis") rfl) (fun i j hi hj => by subst hi; exact small_l (by decide) (by decide)) (fun i j hi hj => by subst hi; omega)) (fun i j hi hj => by omega))
    (fun d hd => by obtain ⟨a, rfl, ha⟩ := hd; exact ⟨a, ha, rfl⟩)) ?_
  rintro ds' ⟨a, ha, rfl⟩
  refine run_cons (Mid := fun ds' => ∃ (a : Int) (z : SD), 0 ≤ a ∧ ds' = [.deck, .dat (.int n), .dat (.int a), z]) (rs_ifDraw (i := 0) (iy := 3) (iz := 1) (n := n) rfl (by walk_at "vis") rfl (by walk_at "sto") (by walk_at "vis") rfl (by walk_at "vis") rfl (by omega) (by decide) (by decide) (by show 3 < 4; decide) rfl m.max
    (fun b => run_one (rs_retP (P := IsI (fun i => 0 ≤ i ∧ i < n)) (ev_modP (p := fun _ => True) (q := (· = (n : Int))) (ev_intIP rfl m.int ((ev_var 3 rfl (by walk_at "vis") rfl).imp (fun d hd => ⟨b, hd, trivial⟩))) ((ev_var 1 rfl (by walk_at "vis") rfl).imp isI) (fun i j _ hj => by subst hj; omega) (fun i j _ hj => by subst hj; exact ⟨Int.emod_nonneg _ (by omega), Int.emod_lt_of_pos _ (by omega)⟩)) (fun d hd => hd)))
    (fun b => run_one (rs_setP (i := 2) (P := IsI (fun i => 0 ≤ i)) (by walk_at "sto") (ev_addP (p := fun i => 0 ≤ i) (q := fun i => 0 ≤ i) ((ev_var 2 rfl (by walk_at "vis") rfl).imp (fun d hd => ⟨a, hd, ha⟩)) (ev_modP (p := fun _ => True) (q := (· = 2147483629)) (ev_intIP rfl m.int ((ev_var 3 rfl (by walk_at "vis") rfl).imp (fun d hd => ⟨b, hd, trivial⟩))) (ev_int.imp isI) (fun i j _ hj => by subst hj; decide) (fun i j _ hj => by subst hj; exact Int.emod_nonneg _ (by decide))) (fun i j hi hj => by omega))
      (fun d hd => by obtain ⟨a2, rfl, ha2⟩ := hd; exact ⟨a2, _, ha2, rfl⟩)))
    ⟨a, _, ha, rfl⟩) ?_
  rintro ds' ⟨a, z, ha, rfl⟩
  refine run_cons (Mid := fun ds' => ∃ a : Int, 0 ≤ a ∧ a < 2147483647 ∧ ds' = [.deck, .dat (.int n), .dat (.int a), z]) (rs_setP (i := 2) (P := IsI (fun i => 0 ≤ i ∧ i < 2147483647)) (by walk_at "sto")
    (ev_modP (p := fun _ => True) (q := (· = 2147483647)) (ev_intIP rfl m.int (ev_addP (p := fun _ => True) (q := fun _ => True) (ev_mulS (p := fun _ => True) (q := (· = 39373)) ((ev_var 2 rfl (by walk_at "vis") rfl).imp (fun d hd => ⟨a, hd, trivial⟩)) (ev_int.imp isI) (fun i j _ hj => by subst hj; exact small_r (by decide) (by decide)) (fun _ _ _ _ => trivial)) (ev_int.imp (fun d hd => ⟨_, hd, trivial⟩)) (fun _ _ _ _ => trivial))) (ev_int.imp isI) (fun i j _ hj => by subst hj; decide) (fun i j _ hj => by subst hj; exact ⟨Int.emod_nonneg _ (by decide), Int.emod_lt_of_pos _ (by decide)⟩))
    (fun d hd => by obtain ⟨a, rfl, ha⟩ := hd; exact ⟨a, ha.1, ha.2, rfl⟩)) ?_
  rintro ds' ⟨a, ha, hb, rfl⟩
  refine run_cons (Mid := fun ds' => ∃ a : Int, 0 ≤ a ∧ ds' = [.deck, .dat (.int n), .dat (.int a), z]) (rs_setP (i := 2) (P := IsI (fun i => 0 ≤ i)) (by walk_at "sto")
    (ev_modP (p := fun _ => True) (q := (· = 2147483587)) (ev_intIP rfl m.int (ev_addP (p := fun _ => True) (q := fun _ => True) (ev_addP (p := fun _ => True) (q := fun _ => True)
      (ev_mulS (p := (· = a)) (q := (· = a)) ((ev_var 2 rfl (by walk_at "vis") rfl).imp isI) ((ev_var 2 rfl (by walk_at "vis") rfl).imp isI) (fun i j hi hj => by subst hi; exact small_l ha (by omega)) (fun _ _ _ _ => trivial))
      (ev_mulS (p := (· = 52713)) (q := fun i => 0 ≤ i) (ev_int.imp isI) (ev_deckD 0 rfl (by walk_at "vis") rfl) (fun i j hi hj => by subst hi; exact small_l (by decide) (by decide)) (fun _ _ _ _ => trivial)) (fun _ _ _ _ => trivial)) (ev_int.imp (fun d hd => ⟨_, hd, trivial⟩)) (fun _ _ _ _ => trivial))) (ev_int.imp isI) (fun i j _ hj => by subst hj; decide) (fun i j _ hj => by subst hj; exact Int.emod_nonneg _ (by decide)))
    (fun d hd => by obtain ⟨a, rfl, ha⟩ := hd; exact ⟨a, ha, rfl⟩)) ?_
  rintro ds' ⟨a, ha, rfl⟩
  refine run_cons (Mid := fun ds' => ∃ a : Int, 0 ≤ a ∧ ds' = [.deck, .dat (.int n), .dat (.int a), z]) (rs_setP (i := 2) (P := IsI (fun i => 0 ≤ i)) (by walk_at "sto")
    (ev_modP (p := fun _ => True) (q := (· = 2147483563)) (ev_intIP rfl m.int (ev_mulS (p := fun _ => True) (q := (· = 40692)) ((ev_var 2 rfl (by walk_at "vis") rfl).imp (fun d hd => ⟨a, hd, trivial⟩)) (ev_int.imp isI) (fun i j _ hj => by subst hj; exact small_r (by decide) (by decide)) (fun _ _ _ _ => trivial))) (ev_int.imp isI) (fun i j _ hj => by subst hj; decide) (fun i j _ hj => by subst hj; exact Int.emod_nonneg _ (by decide)))
    (fun d hd => by obtain ⟨a, rfl, ha⟩ := hd; exact ⟨a, ha, rfl⟩)) ?_
  rintro ds' ⟨a, ha, rfl⟩
  exact run_one (rs_retP (P := IsI (fun i => 0 ≤ i ∧ i < n)) (ev_modP (p := fun _ => True) (q := (· = (n : Int))) (ev_intIP rfl m.int (ev_divP (p := fun _ => True) (q := (· = 64)) ((ev_var 2 rfl (by walk_at "vis") rfl).imp (fun d hd => ⟨a, hd, trivial⟩)) (ev_int.imp isI) (fun i j _ hj => by subst hj; exact wide_div (b := 10) (by decide) (by decide) (by decide) (by decide)) (fun _ _ _ _ => trivial))) ((ev_var 1 rfl (by walk_at "vis") rfl).imp isI) (fun i j _ hj => by subst hj; omega) (fun i j _ hj => by subst hj; exact ⟨Int.emod_nonneg _ (by omega), Int.emod_lt_of_pos _ (by omega)⟩)) (fun d hd => hd))
end

end K8

set_option Elab.async false
set_option maxRecDepth 100000
set_option linter.all false
set_option maxHeartbeats 2000000
namespace Dl
open PySem PySem.Spec PyProof.Rows L2
section
variable {I : Inf} {c : Ct} {ds : List SD} {a b e : Expr} {P PA PB : D → Prop} {pos : Pos} {d : D}
theorem et_cmpG {op : CmpOp} {r : R2} {PT : Bool → Prop} (ho : ∀ X, Fits I X → OpR X (compareOp op) r) (hm : behindInMarks op b = false) (ha : EvE I c a ds PA) (hb : EvE I c b ds PB)
    (h : ∀ d e, PA d → PB e → Rv I c ds r d e (fun t => ∃ b', t = .bool b' ∧ PT b')) : EvT I c (.Compare a [op] [b] pos) ds PT := fun X F σ G H s Q k => by
  refine w_pt (pt_cmpR (ho X F) pe_w pe_w hm) ?_
  refine ha X F σ G H s _ fun x G1 H1 d x1 s1 r1 p1 => ?_
  refine hb X F σ G1 H1 s1 _ fun y G2 H2 e x2 s2 r2 p2 => ?_
  refine h d e p1 p2 σ G2 H2 x y s2 (r1.mono x2.g) r2 _ fun v G3 H3 t x3 s3 r3 p3 => ?_
  obtain ⟨b', rfl, p3⟩ := p3
  rw [r3.bl']
  exact ⟨b', rfl, k b' G3 H3 ((x1.trans x2).trans x3) s3 p3⟩
theorem et_geP {p q : Int → Prop} {PT : Bool → Prop} (ha : EvE I c a ds (IsI p)) (hb : EvE I c b ds (IsI q)) (h : ∀ i j, p i → q j → PT (decide (j ≤ i))) : EvT I c (.Compare a [.GtE] [b] pos) ds PT :=
  et_cmpG (fun _ _ => op_ge) (nobehind _ (by decide) (by decide)) ha hb fun d e ⟨i, hi, pi⟩ ⟨j, hj, qj⟩ => by rw [hi, hj]; exact rv_B0 ⟨_, rfl, h i j pi qj⟩
theorem et_ltP {p q : Int → Prop} {PT : Bool → Prop} (ha : EvE I c a ds (IsI p)) (hb : EvE I c b ds (IsI q)) (h : ∀ i j, p i → q j → PT (decide (i < j))) : EvT I c (.Compare a [.Lt] [b] pos) ds PT :=
  et_cmpG (fun _ _ => op_lt) (nobehind _ (by decide) (by decide)) ha hb fun d e ⟨i, hi, pi⟩ ⟨j, hj, qj⟩ => by rw [hi, hj]; exact rv_B0 ⟨_, rfl, h i j pi qj⟩
theorem et_gtP {p q : Int → Prop} {PT : Bool → Prop} (ha : EvE I c a ds (IsI p)) (hb : EvE I c b ds (IsI q)) (h : ∀ i j, p i → q j → PT (decide (j < i))) : EvT I c (.Compare a [.Gt] [b] pos) ds PT :=
  et_cmpG (fun _ _ => op_gt) (nobehind _ (by decide) (by decide)) ha hb fun d e ⟨i, hi, pi⟩ ⟨j, hj, qj⟩ => by rw [hi, hj]; exact rv_B0 ⟨_, rfl, h i j pi qj⟩
theorem et_eqP {PT : Bool → Prop} (ha : EvE I c a ds PA) (hb : EvE I c b ds PB) (h : ∀ d e, PA d → PB e → SeqAt.shaped d = true ∧ SeqAt.shaped e = true ∧ PT (PyData.eqv d e)) : EvT I c (.Compare a [.Eq] [b] pos) ds PT :=
  et_cmpG (r := rEqD I.K) (fun X F => by have := op_eqD (X := X) F.room.units; rw [F.K] at this; exact this) (nobehind _ (by decide) (by decide)) ha hb fun d' e' hi hj => by
    obtain ⟨sd, se, hp⟩ := h d' e' hi hj
    exact rv_eq sd se ⟨_, rfl, hp⟩
theorem et_neP {PT : Bool → Prop} (ha : EvE I c a ds PA) (hb : EvE I c b ds PB) (h : ∀ d e, PA d → PB e → SeqAt.shaped d = true ∧ SeqAt.shaped e = true ∧ PT (!PyData.eqv d e)) : EvT I c (.Compare a [.NotEq] [b] pos) ds PT :=
  et_cmpG (r := rNeD I.K) (fun X F => by have := op_neD (X := X) F.room.units; rw [F.K] at this; exact this) (nobehind _ (by decide) (by decide)) ha hb fun d' e' hi hj => by
    obtain ⟨sd, se, hp⟩ := h d' e' hi hj
    exact rv_ne sd se ⟨_, rfl, hp⟩
theorem et_eqIP {p q : Int → Prop} {PT : Bool → Prop} (ha : EvE I c a ds (IsI p)) (hb : EvE I c b ds (IsI q)) (h : ∀ i j, p i → q j → PT (decide (i = j))) : EvT I c (.Compare a [.Eq] [b] pos) ds PT :=
  et_eqP ha hb fun d e ⟨i, hi, pi⟩ ⟨j, hj, qj⟩ => by
    subst hi; subst hj
    refine ⟨by unfold SeqAt.shaped; simp [PyData.canLay0, PyData.depth], by unfold SeqAt.shaped; simp [PyData.canLay0, PyData.depth], ?_⟩
    have e : PyData.eqv (.int i) (.int j) = decide (i = j) := by simp [PyData.eqv]; rfl
    rw [e]; exact h i j pi qj
theorem Made.every {R : D → D → Prop} {items l : List D} (h : Made (fun _ => true) R items l) : l.length = items.length ∧ ∀ (i : Nat) (y : D), l[i]? = some y → ∃ d : D, items[i]? = some d ∧ R d y := by
  induction h with
  | nil => exact ⟨rfl, fun i y h => by simp at h⟩
  | skip _ h2 => cases h2
  | @put items l d y _ _ hr ih =>
    obtain ⟨h1, h2⟩ := ih
    refine ⟨by simp [h1], fun i z hz => ?_⟩
    by_cases e : i < l.length
    · rw [List.getElem?_append_left e] at hz
      obtain ⟨d', hd', hr'⟩ := h2 i z hz
      exact ⟨d', by rw [List.getElem?_append_left (by omega)]; exact hd', hr'⟩
    · rw [List.getElem?_append_right (by omega)] at hz
      have e2 : i - l.length = 0 := by
        rcases Nat.eq_zero_or_pos (i - l.length) with h0 | h0
        · exact h0
        · rw [List.getElem?_eq_none (by simp; omega)] at hz; cases hz
      rw [e2] at hz
      simp at hz
      subst hz
      refine ⟨d, ?_, hr⟩
      rw [List.getElem?_append_right (by omega), ← h1, e2]; rfl
/-- [..], each item by what is told of it -/
theorem ef_mapP {elt tg iter : Expr} {scope : Scope} (own : List (Str × Nat)) {asg : D → List (Nat × D) → Prop} {PL : List D → Prop} (R : D → D → Prop)
    (hb : blkC I.N I.sc scope own = true) (hw : Walk I c tg iter ds PL) (ht : TgE (I.blk scope) tg asg) (hl : ∀ items, PL items → items.length ≤ Lm)
    (he : ∀ items, PL items → ∀ d ∈ items, ∃ as, asg d as ∧ (∀ q ∈ as, q.1 ∈ own.map (fun x : Str × Nat => x.2)) ∧ EvE (I.blk scope) c elt (setDs (wipeDs ds (own.map (fun x : Str × Nat => x.2))) as) (R d))
    (hs : ∀ X, Fits I X → ∀ x, foldedSetIterable iter X.env x = pure x := by intros; rfl) :
    EvF I c (.ListComp elt [⟨tg, iter, [], 0⟩] scope pos) ds (fun l => ∃ items, PL items ∧ l.length = items.length ∧ ∀ (i : Nat) (y : D), l[i]? = some y → ∃ d : D, items[i]? = some d ∧ R d y) := fun X F σ G H s Q k =>
  ef_lc (pos := pos) own (keep := fun _ => true) (R := R) hb hw ht hl (fun l e d hd => by
    obtain ⟨as, h1, h2, h3⟩ := he l e d hd
    exact ⟨as, h1, h2, ei_nil, fun _ => h3⟩) hs X F σ G H s Q fun p xs G' H' l x1 s1 np hg hd hl' hh r ⟨it, e, made⟩ => k p xs G' H' l x1 s1 np hg hd hl' hh r ⟨it, e, made.every⟩
end
end Dl


set_option Elab.async false
set_option maxRecDepth 100000
set_option exponentiation.threshold 2000
set_option linter.all false
set_option maxHeartbeats 1000000
namespace K8
open PySem L2 Dl
local macro_rules | `(tactic| walk_at "vis") => `(tactic| first | exact Or.inl rfl | exact Or.inr (Or.inl rfl) | exact Or.inr (Or.inr rfl))
local macro_rules | `(tactic| walk_at "sto") => `(tactic| first | exact ⟨rfl, Or.inl rfl, Or.inl rfl⟩ | exact ⟨rfl, Or.inl rfl, Or.inr rfl⟩ | exact ⟨rfl, Or.inr rfl, Or.inl rfl⟩)
local macro_rules | `(tactic| walk_at "var") => `(tactic| first
  | exact ev_var 0 rfl (by walk_at "vis") rfl | exact ev_var 1 rfl (by walk_at "vis") rfl | exact ev_var 2 rfl (by walk_at "vis") rfl | exact ev_var 3 rfl (by walk_at "vis") rfl
  | exact ev_var 4 rfl (by walk_at "vis") rfl | exact ev_var 5 rfl (by walk_at "vis") rfl | exact ev_var 6 rfl (by walk_at "vis") rfl | exact ev_var 7 rfl (by walk_at "vis") rfl
  | exact ev_var 8 rfl (by walk_at "vis") rfl | exact ev_var 9 rfl (by walk_at "vis") rfl | exact ev_var 10 rfl (by walk_at "vis") rfl | exact ev_var 11 rfl (by walk_at "vis") rfl
  | exact ev_var 12 rfl (by walk_at "vis") rfl | exact ev_var 13 rfl (by walk_at "vis") rfl | exact ev_var 14 rfl (by walk_at "vis") rfl | exact ev_var 15 rfl (by walk_at "vis") rfl)

local macro_rules | `(tactic| walk_at "ev") => `(tactic| first
  | exact ev_int | exact ev_bl | exact ev_str | exact ev_non
  | walk_at "var"
  | (refine ev_neg ?_ <;> walk_at "ev")
  | (refine ev_add ?_ ?_ <;> walk_at "ev")
  | (refine ev_sub ?_ ?_ <;> walk_at "ev"))

local macro_rules | `(tactic| walk_at "blk") => `(tactic| (dsimp only; decide +kernel))
theorem at_gen {l : List D} {k : Nat} (h : k < l.length) : atI l (k : Int) = some l[k] := atI_nat (by rw [List.getElem?_eq_getElem h])
def WallP (n B : Nat) : D → Prop := fun d => ∃ r : List Int, d = wallD r ∧ r.length = n ∧ ∀ x ∈ r, x.natAbs ≤ B
def WallsP (n B len : Nat) : D → Prop := fun d => ∃ ws : List (List Int), d = wallsD ws ∧ ws.length = len ∧ ∀ r ∈ ws, r.length = n ∧ ∀ x ∈ r, x.natAbs ≤ B
/-- a list of ints by what is told of its items -/
theorem ints_of {q : Int → Prop} : ∀ {l : List D}, (∀ d ∈ l, ∃ i, d = PyData.int i ∧ q i) → ∃ r : List Int, l = r.map PyData.int ∧ ∀ x ∈ r, q x
  | [], _ => ⟨[], rfl, fun x h => by simp at h⟩
  | d :: l, h => by
    obtain ⟨i, rfl, hi⟩ := h d (by simp)
    obtain ⟨r, rfl, hr⟩ := ints_of (l := l) (fun d hd => h d (by simp [hd]))
    exact ⟨i :: r, rfl, fun x hx => by rcases List.mem_cons.mp hx with e | e; · subst e; exact hi
                                       · exact hr x e⟩
theorem walls_of {q : List Int → Prop} : ∀ {l : List D}, (∀ d ∈ l, ∃ r, d = wallD r ∧ q r) → ∃ ws : List (List Int), l = ws.map wallD ∧ ∀ r ∈ ws, q r
  | [], _ => ⟨[], rfl, fun x h => by simp at h⟩
  | d :: l, h => by
    obtain ⟨i, rfl, hi⟩ := h d (by simp)
    obtain ⟨r, rfl, hr⟩ := walls_of (l := l) (fun d hd => h d (by simp [hd]))
    exact ⟨i :: r, rfl, fun x hx => by rcases List.mem_cons.mp hx with e | e; · subst e; exact hi
                                       · exact hr x e⟩
section
variable {P : Program} {w : World} {K : Frag} {mg : Str → Option Value} {base : Heap} {k : Nat} {f : Addr} {fd : FuncData}
theorem ev_draw {I : Inf} {c : Ct} {ds : List SD} {p p1 pos : Pos} {e : Expr} {i : Nat} {q r : Int → Prop} {y : Str} (hf : FnD I ("_law_draw" : Str) pcDraw) (hg : I.sc.names.lookup ("_law_draw" : Str) = some .globalImplicit)
    (hN : I.N[i]? = some y) (hv : Vis I.sc y) (hd : ds[i]? = some .deck) (he : EvE I c e ds (IsI q)) (hq : ∀ m, q m → 1 ≤ m ∧ m < 2 ^ 60) (hr : ∀ m j, q m → 0 ≤ j → j < m → r j)
    (h1 : (y == ("__debug__" : Str)) = false := by decide) (h2 : (y == ("__classdict__" : Str)) = false := by decide)
    (hs : ∀ X, Fits I X → starEach [.Name y p1, e] X.env = (false, eval (.Name y p1) X.env) :: starEach [e] X.env := by intros; rfl)
    (hs2 : ∀ X, Fits I X → starEach [e] X.env = (false, eval e X.env) :: starEach [] X.env := by intros; rfl)
    (hpl : ∀ X, Fits I X → (backTo pos (starEach [e] X.env)).any (·.1) = false := by intros; rfl) :
    EvE I c (.Call (.Name ("_law_draw" : Str) p) [.Name y p1, e] [] pos) ds (IsI r) :=
  ev_callD (PA := fun l => ∃ m, q m ∧ l = [.deck, .dat (.int m)]) (Pc := pcDraw) hf hg
    (ed_deckP (R := fun l => ∃ m, q m ∧ l = [.dat (.int m)]) i hN hv hd (ed_datP (R := (· = [])) he ed_nil (fun d l hd hl => by obtain ⟨m, rfl, hm⟩ := hd; subst hl; exact ⟨m, hm, rfl⟩) hs2) (fun l hl => by obtain ⟨m, hm, rfl⟩ := hl; exact ⟨m, hm, rfl⟩) h1 h2 hs)
    (fun l hl => by
      obtain ⟨m, hm, rfl⟩ := hl
      have hb := hq m hm
      refine ⟨_, ⟨m.toNat, by rw [Int.toNat_of_nonneg (by omega)], by omega, by omega, rfl⟩, fun d hd => ?_⟩
      obtain ⟨j, rfl, hj⟩ := hd
      exact ⟨j, rfl, hr m j hm hj.1 (by omega)⟩) (by decide) hs hpl

/-! _law_pick(deck, some) -/
abbrev sPick : Stmt := top 36
theorem scPick : FnScope ["_law_deck_here", "_law_some"] ["_law_deck_here", "_law_some"] (defScope sPick) := ⟨rfl, rfl, rfl, by decide +kernel, rfl, by decide +kernel, by decide +kernel⟩
def pcPick : List AD → (D → Prop) → Prop := fun ads R => ∃ l : List D, ads = [.deck, .dat (.list l)] ∧ 1 ≤ l.length ∧ l.length ≤ Lm ∧ R = (· ∈ l)
theorem ok_Pick (m : Mg mg) (F : Fun K "_law_pick" "_law_pick" sPick f fd) (hDraw : Has P w K mg base k "_law_draw" (spD K pcDraw)) : FnOk P w K mg base CX0 (k + 1) f fd ["_law_deck_here", "_law_some"] (spD K pcPick) := by
  refine fn_mkD F scPick (fun ads R h => by obtain ⟨_, rfl, _⟩ := h; rfl) fun c ads R h hz => ?_
  obtain ⟨l, rfl, h1, h2, rfl⟩ := h
  have h3 : l.length ≤ 100000 := h2
  refine run_one (rs_retP (P := (· ∈ l)) (ev_ixP (PA := (· = .list l)) (PB := IsI (fun j => 0 ≤ j ∧ j < (l.length : Nat))) (by walk_at "var")
    (ev_draw ⟨hDraw⟩ rfl (i := 0) rfl (by walk_at "vis") rfl ((ev_lenL rfl m.len (by walk_at "var")).imp isI) (fun m hm => by omega) (fun m j hm h0 hj => by subst hm; exact ⟨h0, hj⟩)) (fun x y hx hy => ?_)) (fun d hd => hd))
  obtain ⟨j, rfl, h0, hj⟩ := hy
  obtain ⟨j', rfl⟩ : ∃ j' : Nat, j = j' := ⟨j.toNat, by omega⟩
  exact ⟨l, _, _, rfl, .inl hx, at_gen (by omega), List.getElem_mem _⟩

/-! _law_item(deck, most) -/
abbrev sItem : Stmt := top 41
theorem scItem : FnScope ["_law_deck_here", "_law_most"] ["_law_deck_here", "_law_most"] (defScope sItem) := ⟨rfl, rfl, rfl, by decide +kernel, rfl, by decide +kernel, by decide +kernel⟩
def pcItem : List AD → (D → Prop) → Prop := fun ads R => ∃ n : Nat, ads = [.deck, .dat (.int n)] ∧ n < 2 ^ 50 ∧ R = IsI (fun i => i.natAbs ≤ n)
theorem ok_Item (F : Fun K "_law_item" "_law_item" sItem f fd) (hDraw : Has P w K mg base k "_law_draw" (spD K pcDraw)) : FnOk P w K mg base CX0 (k + 1) f fd ["_law_deck_here", "_law_most"] (spD K pcItem) := by
  refine fn_mkD F scItem (fun ads R h => by obtain ⟨_, rfl, _⟩ := h; rfl) fun c ads R h hz => ?_
  obtain ⟨n, rfl, h1, rfl⟩ := h
  refine run_one (rs_retP (P := IsI (fun i => i.natAbs ≤ n)) (ev_if (PT := fun _ => True) (et_eqIP (p := fun _ => True) (q := (· = 0)) (ev_draw ⟨hDraw⟩ rfl (i := 0) (q := (· = 3)) rfl (by walk_at "vis") rfl (ev_int.imp isI) (fun m hm => by omega) (fun _ _ _ _ _ => trivial)) (ev_int.imp isI) (fun _ _ _ _ => trivial))
    (fun _ => ev_int.imp (fun d hd => ⟨0, hd, by omega⟩))
    (fun _ => ev_subP (p := fun j => 0 ≤ j ∧ j < 2 * n + 1) (q := (· = (n : Int))) (ev_draw ⟨hDraw⟩ rfl (i := 0) (q := (· = 2 * (n : Int) + 1)) rfl (by walk_at "vis") rfl
      (ev_addP (p := (· = 2 * (n : Int))) (q := (· = 1)) (ev_mulS (p := (· = 2)) (q := (· = (n : Int))) (ev_int.imp isI) ((ev_var 1 rfl (by walk_at "vis") rfl).imp isI) (fun i j hi hj => by subst hi; exact small_l (by decide) (by decide)) (fun i j hi hj => by subst hi; subst hj; rfl)) (ev_int.imp isI) (fun i j hi hj => by subst hi; subst hj; rfl)) (fun m hm => by omega) (fun m j hm h0 hj => by subst hm; exact ⟨h0, hj⟩))
      ((ev_var 1 rfl (by walk_at "vis") rfl).imp isI) (fun i j hi hj => by omega))) (fun d hd => hd))

end

end K8

set_option Elab.async false
set_option maxRecDepth 100000
set_option exponentiation.threshold 2000
set_option linter.all false
set_option maxHeartbeats 1000000
namespace K8
open PySem L2 Dl
local macro_rules | `(tactic| walk_at "vis") => `(tactic| first | exact Or.inl rfl | exact Or.inr (Or.inl rfl) | exact Or.inr (Or.inr rfl))
local macro_rules | `(tactic| walk_at "sto") => `(tactic| first | exact ⟨rfl, Or.inl rfl, Or.inl rfl⟩ | exact ⟨rfl, Or.inl rfl, Or.inr rfl⟩ | exact ⟨rfl, Or.inr rfl, Or.inl rfl⟩)
local macro_rules | `(tactic| walk_at "var") => `(tactic| first
  | exact ev_var 0 rfl (by walk_at "vis") rfl | exact ev_var 1 rfl (by walk_at "vis") rfl | exact ev_var 2 rfl (by walk_at "vis") rfl | exact ev_var 3 rfl (by walk_at "vis") rfl
  | exact ev_var 4 rfl (by walk_at "vis") rfl | exact ev_var 5 rfl (by walk_at "vis") rfl | exact ev_var 6 rfl (by walk_at "vis") rfl | exact ev_var 7 rfl (by walk_at "vis") rfl
  | exact ev_var 8 rfl (by walk_at "vis") rfl | exact ev_var 9 rfl (by walk_at "vis") rfl | exact ev_var 10 rfl (by walk_at "vis") rfl | exact ev_var 11 rfl (by walk_at "vis") rfl
  | exact ev_var 12 rfl (by walk_at "vis") rfl | exact ev_var 13 rfl (by walk_at "vis") rfl | exact ev_var 14 rfl (by walk_at "vis") rfl | exact ev_var 15 rfl (by walk_at "vis") rfl)

local macro_rules | `(tactic| walk_at "ev") => `(tactic| first
  | exact ev_int | exact ev_bl | exact ev_str | exact ev_non
  | walk_at "var"
  | (refine ev_neg ?_ <;> walk_at "ev")
  | (refine ev_add ?_ ?_ <;> walk_at "ev")
  | (refine ev_sub ?_ ?_ <;> walk_at "ev"))

local macro_rules | `(tactic| walk_at "blk") => `(tactic| (dsimp only; decide +kernel))
section
variable {I : Inf} {c : Ct} {ds : List SD} {a b e : Expr} {P PA PB : D → Prop} {pos : Pos} {m n B : Nat}
theorem ev_powC {i j : Int} (ha : EvE I c a ds (· = .int i)) (hb : EvE I c b ds (· = .int j)) (hc : CPow i j) : EvE I c (.BinOp a .Pow b pos) ds (· = .int (i ^ j.toNat)) :=
  ev_op (fun _ _ => op_pow) ha hb fun d e hi hj => by rw [hi, hj]; exact rv_I hc rfl
theorem ev_catW (ha : EvE I c a ds (WallP m B)) (hb : EvE I c b ds (WallP n B)) (hl : m + n ≤ 1000) : EvE I c (.BinOp a .Add b pos) ds (WallP (m + n) B) :=
  ev_catTP ha hb (fun x y hx hy => by
    obtain ⟨r, rfl, h1, h2⟩ := hx
    obtain ⟨s, rfl, g1, g2⟩ := hy
    refine ⟨r.map PyData.int, s.map PyData.int, rfl, rfl, by rw [List.length_map, List.length_map, h1, g1]; exact Nat.le_trans hl (by decide), r ++ s, by unfold wallD; rw [List.map_append], by rw [List.length_append, h1, g1], fun x hx => ?_⟩
    rcases List.mem_append.mp hx with h | h
    · exact h2 x h
    · exact g2 x h)
theorem ev_oneW {x1} (h : EvE I c e ds (IsI (fun i => i.natAbs ≤ B))) (hs : ∀ X, Fits I X → starEach [e] X.env = (false, eval e X.env) :: starEach [] X.env := by intros; rfl) : EvE I c (.Tuple [e] x1 pos) ds (WallP 1 B) :=
  ev_tupP (R := fun l => ∃ i : Int, l = [.int i] ∧ i.natAbs ≤ B) (ea_consP h ea_nil (fun d l hd hl => by obtain ⟨i, rfl, hi⟩ := hd; subst hl; exact ⟨i, rfl, hi⟩) hs)
    (fun l hl => by obtain ⟨i, rfl, _⟩ := hl; show 1 ≤ 100000; decide) (fun l hl => by obtain ⟨i, rfl, hi⟩ := hl; exact ⟨[i], rfl, rfl, fun x hx => by simp at hx; subst hx; exact hi⟩)
theorem ev_zeroW {x1 : Nat} {p1 p2 : Pos} {j : Nat} (h : EvE I c e ds (· = .int (n : Nat))) (hn : n ≤ 1000) : EvE I c (.BinOp (.Tuple [.Constant (.int 0) j p1] x1 p2) .Mult e pos) ds (WallP n B) :=
  ev_repTP (ev_tup (ea_cons ev_int ea_nil)) h (fun x y hx hy => ⟨[.int 0], n, hx, hy, by omega, by omega, by decide, List.replicate n 0, by
    rw [Int.toNat_natCast, flat1]; unfold wallD; rw [List.map_replicate], by simp, fun x hx => by rw [List.eq_of_mem_replicate hx]; simp⟩)
/-- tuple([.. for at in range(n)]) of ints -/
theorem ev_tupRange {p p2 p3 p4 p5 tp : Pos} {elt : Expr} {scope : Scope} {iv : Nat} {vn : Str} {q : Int → Prop} (hn : n ≤ 1000) (hgt : I.sc.names.lookup ("tuple" : Str) = some .globalImplicit) (hmt : I.mg "tuple" = none)
    (hgr : I.sc.names.lookup ("range" : Str) = some .globalImplicit) (hmr : I.mg "range" = none) (hvar : EvE I c e ds (· = .int (n : Nat))) (hb : blkC I.N I.sc scope [(vn, iv)] = true) (ht : Sto (I.blk scope) iv vn)
    (he : ∀ d, EvE (I.blk scope) c elt (setDs (wipeDs ds [iv]) [(iv, d)]) (IsI q))
    (hs1 : ∀ X, Fits I X → starEach [.ListComp elt [⟨.Name vn tp, .Call (.Name "range" p2) [e] [] p3, [], 0⟩] scope p4] X.env = (false, eval (.ListComp elt [⟨.Name vn tp, .Call (.Name "range" p2) [e] [] p3, [], 0⟩] scope p4) X.env) :: starEach [] X.env := by intros; rfl)
    (hs2 : ∀ X, Fits I X → starEach [e] X.env = [(false, eval e X.env)] := by intros; rfl)
    (hs3 : ∀ X, Fits I X → ∀ x, foldedSetIterable (.Call (.Name "range" p2) [e] [] p3) X.env x = pure x := by intros; rfl) :
    EvE I c (.Call (.Name "tuple" p) [.ListComp elt [⟨.Name vn tp, .Call (.Name "range" p2) [e] [] p3, [], 0⟩] scope p4] [] p5) ds (fun d => ∃ r : List Int, d = wallD r ∧ r.length = n ∧ ∀ x ∈ r, q x) :=
  ev_tupleP (PA := fun d => ∃ r : List Int, d = rowD r ∧ r.length = n ∧ ∀ x ∈ r, q x) hgt hmt (ev_fresh (ef_mapP [(vn, iv)] (PL := (· = intsD 0 n)) (fun _ => IsI q) hb (wk_range1 (n := (n : Int)) hgr hmr hvar (by omega) (by omega) hs2) (tg_name ht) (fun items h => by rw [h, intsD_length]; exact Nat.le_trans hn (by decide))
    (fun items h d hd => ⟨[(iv, d)], rfl, by simp, he d⟩) hs3) (fun l hl => by
      obtain ⟨items, rfl, h1, h2⟩ := hl
      obtain ⟨r, rfl, hr⟩ := ints_of (q := q) (l := l) (fun d hd => by
        obtain ⟨i, hi, e⟩ := List.getElem_of_mem hd
        obtain ⟨d', _, hr⟩ := h2 i d (by rw [List.getElem?_eq_getElem hi, e])
        exact hr)
      exact ⟨r, rfl, by rw [List.length_map, intsD_length] at h1; exact h1, hr⟩)) (fun x hx => by obtain ⟨r, rfl, h1, h2⟩ := hx; exact ⟨_, .inl rfl, r, rfl, h1, h2⟩) hs1
end
section
variable {P : Program} {w : World} {K : Frag} {mg : Str → Option Value} {base : Heap} {k : Nat} {f : Addr} {fd : FuncData}
/-! _law_border(deck, width) -/
abbrev sBord : Stmt := top 42
theorem scBord : FnScope ["_law_deck_here", "_law_width", "_law_way", "_law_at"] ["_law_deck_here", "_law_width"] (defScope sBord) := ⟨rfl, rfl, rfl, by decide +kernel, rfl, by decide +kernel, by decide +kernel⟩
def pcBord : List AD → (D → Prop) → Prop := fun ads R => ∃ n : Nat, ads = [.deck, .dat (.int n)] ∧ 2 ≤ n ∧ n ≤ 8 ∧ R = WallP n 999999
theorem ok_Bord (m : Mg mg) (F : Fun K "_law_border" "_law_border" sBord f fd) (hDraw : Has P w K mg base k "_law_draw" (spD K pcDraw)) (hPick : Has P w K mg base k "_law_pick" (spD K pcPick)) (hItem : Has P w K mg base k "_law_item" (spD K pcItem)) :
    FnOk P w K mg base CX0 (k + 1) f fd ["_law_deck_here", "_law_width"] (spD K pcBord) := by
  refine fn_mkD F scBord (fun ads R h => by obtain ⟨_, rfl, _⟩ := h; rfl) fun c ads R h hz => ?_
  obtain ⟨n, rfl, h2, h8, rfl⟩ := h
  refine run_cons (Mid := fun ds' => ∃ wy : Int, 0 ≤ wy ∧ ds' = [.deck, .dat (.int n), .dat (.int wy), .un]) (rs_setP (i := 2) (P := IsI (fun i => 0 ≤ i)) (by walk_at "sto") (ev_draw ⟨hDraw⟩ rfl (i := 0) (q := (· = 10)) rfl (by walk_at "vis") rfl (ev_int.imp isI) (fun m hm => by omega) (fun m j _ h0 _ => h0))
    (fun d hd => by obtain ⟨a, rfl, ha⟩ := hd; exact ⟨a, ha, rfl⟩)) ?_
  rintro ds' ⟨wy, hw, rfl⟩
  refine run_to (ds1 := [.deck, .dat (.int n), .dat (.int wy), .un]) (rs_if (et_eqI (by walk_at "var") ev_int) (fun _ => run_one (rs_retP (P := fun d => ∃ r : List Int, d = wallD r ∧ r.length = n ∧ ∀ x ∈ r, x.natAbs ≤ 999999) (ev_tupRange (iv := 3) (vn := "_law_at") (by omega) rfl m.tuple rfl m.range (by walk_at "var") (by walk_at "blk") (by walk_at "sto")
    (fun d => ev_callD (PA := (· = [.deck, .dat (.int (999999 : Nat))])) (Pc := pcItem) ⟨hItem⟩ rfl (ed_deck 0 rfl (by walk_at "vis") rfl (ed_dat ((ev_sub (ev_powC (i := 10) (j := 6) ev_int ev_int ⟨by decide, by decide, by decide⟩) ev_int).is (congrArg PyData.int (by decide))) ed_nil)) (fun l hl => ⟨_, ⟨999999, hl, by decide, rfl⟩, fun d hd => hd⟩)))
    (fun d hd => hd))) (fun _ => run_nil rfl)) ?_
  refine run_to (ds1 := [.deck, .dat (.int n), .dat (.int wy), .un]) (rs_if (et_lt (by walk_at "var") ev_int) (fun _ => ?_) (fun _ => run_nil rfl)) ?_
  · refine run_cons (Mid := fun ds' => ∃ at_ : Nat, at_ ≤ n - 2 ∧ ds' = [.deck, .dat (.int n), .dat (.int wy), .dat (.int at_)]) (rs_setP (i := 3) (P := IsI (fun i => 0 ≤ i ∧ i < n - 1)) (by walk_at "sto") (ev_draw ⟨hDraw⟩ rfl (i := 0) (q := (· = (n : Int) - 1)) rfl (by walk_at "vis") rfl ((ev_sub (by walk_at "var") ev_int).imp isI) (fun m hm => by omega) (fun m j hm h0 hj => by subst hm; exact ⟨h0, hj⟩))
      (fun d hd => by obtain ⟨a, rfl, h0, ha⟩ := hd; exact ⟨a.toNat, by omega, by show _ = [_, _, _, SD.dat (.int (a.toNat : Int))]; rw [Int.toNat_of_nonneg h0]; rfl⟩)) ?_
    rintro ds' ⟨at_, hat, rfl⟩
    refine run_one (rs_retP (P := WallP (at_ + 1 + (n - 2 - at_) + 1) 999999) (ev_catW (ev_catW (ev_catW (ev_zeroW (n := at_) (by walk_at "var") (by omega))
      (ev_oneW (ev_callD (PA := (· = [.deck, .dat (.list [.int 1, .int (-1)])])) (Pc := pcPick) ⟨hPick⟩ rfl (ed_deck 0 rfl (by walk_at "vis") rfl (ed_dat (ev_lst (ea_cons ev_int (ea_cons (ev_neg ev_int) ea_nil)) (hl := by show 2 ≤ 100000; decide)) ed_nil)) (fun l hl => ⟨_, ⟨_, hl, by decide, by show 2 ≤ 100000; decide, rfl⟩, fun d hd => by
        simp only [List.mem_cons, List.not_mem_nil, or_false] at hd
        rcases hd with h | h <;> exact ⟨_, h, by decide⟩⟩))) (by omega))
      (ev_zeroW (n := n - 2 - at_) ((ev_sub (ev_sub (by walk_at "var") ev_int) (by walk_at "var")).is (by congr 1; omega)) (by omega)) (by omega))
      (ev_oneW (ev_draw ⟨hDraw⟩ rfl (i := 0) (q := (· = 4)) rfl (by walk_at "vis") rfl (ev_int.imp isI) (fun m hm => by omega) (fun m j hm h0 hj => by subst hm; omega))) (by omega)) (fun d hd => by
        have e : at_ + 1 + (n - 2 - at_) + 1 = n := by omega
        rw [e] at hd; exact hd))
  · exact run_one (rs_retP (P := fun d => ∃ r : List Int, d = wallD r ∧ r.length = n ∧ ∀ x ∈ r, x.natAbs ≤ 4) (ev_tupRange (iv := 3) (vn := "_law_at") (by omega) rfl m.tuple rfl m.range (by walk_at "var") (by walk_at "blk") (by walk_at "sto")
      (fun d => ev_callD (PA := (· = [.deck, .dat (.int (4 : Nat))])) (Pc := pcItem) ⟨hItem⟩ rfl (ed_deck 0 rfl (by walk_at "vis") rfl (ed_dat ev_int ed_nil)) (fun l hl => ⟨_, ⟨4, hl, by decide, rfl⟩, fun d hd => hd⟩)))
      (fun d hd => by obtain ⟨r, rfl, h1, h2⟩ := hd; exact ⟨r, rfl, h1, fun x hx => Nat.le_trans (h2 x hx) (by decide)⟩))
end

end K8

set_option Elab.async false
set_option maxRecDepth 100000
set_option exponentiation.threshold 2000
set_option linter.all false
set_option maxHeartbeats 1000000
namespace K8
open PySem L2 Dl
local macro_rules | `(tactic| walk_at "vis") => `(tactic| first | exact Or.inl rfl | exact Or.inr (Or.inl rfl) | exact Or.inr (Or.inr rfl))
local macro_rules | `(tactic| walk_at "sto") => `(tactic| first | exact ⟨rfl, Or.inl rfl, Or.inl rfl⟩ | exact ⟨rfl, Or.inl rfl, Or.inr rfl⟩ | exact ⟨rfl, Or.inr rfl, Or.inl rfl⟩)
local macro_rules | `(tactic| walk_at "var") => `(tactic| first
  | exact ev_var 0 rfl (by walk_at "vis") rfl | exact ev_var 1 rfl (by walk_at "vis") rfl | exact ev_var 2 rfl (by walk_at "vis") rfl | exact ev_var 3 rfl (by walk_at "vis") rfl
  | exact ev_var 4 rfl (by walk_at "vis") rfl | exact ev_var 5 rfl (by walk_at "vis") rfl | exact ev_var 6 rfl (by walk_at "vis") rfl | exact ev_var 7 rfl (by walk_at "vis") rfl
  | exact ev_var 8 rfl (by walk_at "vis") rfl | exact ev_var 9 rfl (by walk_at "vis") rfl | exact ev_var 10 rfl (by walk_at "vis") rfl | exact ev_var 11 rfl (by walk_at "vis") rfl
  | exact ev_var 12 rfl (by walk_at "vis") rfl | exact ev_var 13 rfl (by walk_at "vis") rfl | exact ev_var 14 rfl (by walk_at "vis") rfl | exact ev_var 15 rfl (by walk_at "vis") rfl)

local macro_rules | `(tactic| walk_at "ev") => `(tactic| first
  | exact ev_int | exact ev_bl | exact ev_str | exact ev_non
  | walk_at "var"
  | (refine ev_neg ?_ <;> walk_at "ev")
  | (refine ev_add ?_ ?_ <;> walk_at "ev")
  | (refine ev_sub ?_ ?_ <;> walk_at "ev"))

local macro_rules | `(tactic| walk_at "blk") => `(tactic| (dsimp only; decide +kernel))
section
variable {I : Inf} {c : Ct} {ds : List SD} {a b e : Expr} {P PA PB : D → Prop} {pos : Pos} {m n B : Nat}
/-- tuple([.. for at in range(n)]) of anything -/
theorem ev_tupRangeG {p p2 p3 p4 p5 tp : Pos} {elt : Expr} {scope : Scope} {iv : Nat} {vn : Str} {R : D → Prop} (hn : n ≤ 1000) (hgt : I.sc.names.lookup ("tuple" : Str) = some .globalImplicit) (hmt : I.mg "tuple" = none)
    (hgr : I.sc.names.lookup ("range" : Str) = some .globalImplicit) (hmr : I.mg "range" = none) (hvar : EvE I c e ds (· = .int (n : Nat))) (hb : blkC I.N I.sc scope [(vn, iv)] = true) (ht : Sto (I.blk scope) iv vn)
    (he : ∀ d, EvE (I.blk scope) c elt (setDs (wipeDs ds [iv]) [(iv, d)]) R)
    (hs1 : ∀ X, Fits I X → starEach [.ListComp elt [⟨.Name vn tp, .Call (.Name "range" p2) [e] [] p3, [], 0⟩] scope p4] X.env = (false, eval (.ListComp elt [⟨.Name vn tp, .Call (.Name "range" p2) [e] [] p3, [], 0⟩] scope p4) X.env) :: starEach [] X.env := by intros; rfl)
    (hs2 : ∀ X, Fits I X → starEach [e] X.env = [(false, eval e X.env)] := by intros; rfl)
    (hs3 : ∀ X, Fits I X → ∀ x, foldedSetIterable (.Call (.Name "range" p2) [e] [] p3) X.env x = pure x := by intros; rfl) :
    EvE I c (.Call (.Name "tuple" p) [.ListComp elt [⟨.Name vn tp, .Call (.Name "range" p2) [e] [] p3, [], 0⟩] scope p4] [] p5) ds (fun d => ∃ l : List D, d = .tuple l ∧ l.length = n ∧ ∀ x ∈ l, R x) :=
  ev_tupleP (PA := fun d => ∃ l : List D, d = .list l ∧ l.length = n ∧ ∀ x ∈ l, R x) hgt hmt (ev_fresh (ef_mapP [(vn, iv)] (PL := (· = intsD 0 n)) (fun _ => R) hb (wk_range1 (n := (n : Int)) hgr hmr hvar (by omega) (by omega) hs2) (tg_name ht) (fun items h => by rw [h, intsD_length]; exact Nat.le_trans hn (by decide))
    (fun items h d hd => ⟨[(iv, d)], rfl, by simp, he d⟩) hs3) (fun l hl => by
      obtain ⟨items, rfl, h1, h2⟩ := hl
      refine ⟨l, rfl, by rw [h1, intsD_length], fun d hd => ?_⟩
      obtain ⟨i, hi, e⟩ := List.getElem_of_mem hd
      obtain ⟨d', _, hr⟩ := h2 i d (by rw [List.getElem?_eq_getElem hi, e])
      exact hr)) (fun x hx => by obtain ⟨l, rfl, h1, h2⟩ := hx; exact ⟨_, .inl rfl, l, rfl, h1, h2⟩) hs1
end
section
variable {P : Program} {w : World} {K : Frag} {mg : Str → Option Value} {base : Heap} {k : Nat} {f : Addr} {fd : FuncData}
/-! _law_borders(deck, width, many) -/
abbrev sBords : Stmt := top 43
theorem scBords : FnScope ["_law_deck_here", "_law_width", "_law_many", "_law_turn"] ["_law_deck_here", "_law_width", "_law_many"] (defScope sBords) := ⟨rfl, rfl, rfl, by decide +kernel, rfl, by decide +kernel, by decide +kernel⟩
def pcBords : List AD → (D → Prop) → Prop := fun ads R => ∃ n m : Nat, ads = [.deck, .dat (.int n), .dat (.int m)] ∧ 2 ≤ n ∧ n ≤ 8 ∧ m ≤ 100 ∧ R = WallsP n 999999 m
theorem ok_Bords (m : Mg mg) (F : Fun K "_law_borders" "_law_borders" sBords f fd) (hBord : Has P w K mg base k "_law_border" (spD K pcBord)) :
    FnOk P w K mg base CX0 (k + 1) f fd ["_law_deck_here", "_law_width", "_law_many"] (spD K pcBords) := by
  refine fn_mkD F scBords (fun ads R h => by obtain ⟨_, _, rfl, _⟩ := h; rfl) fun c ads R h hz => ?_
  obtain ⟨n, mm, rfl, h2, h8, hm, rfl⟩ := h
  exact run_one (rs_retP (P := fun d => ∃ l : List D, d = .tuple l ∧ l.length = mm ∧ ∀ x ∈ l, WallP n 999999 x) (ev_tupRangeG (iv := 3) (vn := "_law_turn") (by omega) rfl m.tuple rfl m.range (by walk_at "var") (by walk_at "blk") (by walk_at "sto")
    (fun d => ev_callD (PA := (· = [.deck, .dat (.int n)])) (Pc := pcBord) ⟨hBord⟩ rfl (ed_deck 0 rfl (by walk_at "vis") rfl (ed_dat (by walk_at "var") ed_nil)) (fun l hl => ⟨_, ⟨n, hl, h2, h8, rfl⟩, fun d hd => hd⟩)))
    (fun d hd => by
      obtain ⟨l, rfl, h1, h2⟩ := hd
      obtain ⟨ws, rfl, hw⟩ := walls_of (q := fun r => r.length = n ∧ ∀ x ∈ r, x.natAbs ≤ 999999) (l := l) (fun d hd => by obtain ⟨r, rfl, g1, g2⟩ := h2 d hd; exact ⟨r, rfl, g1, g2⟩)
      exact ⟨ws, rfl, by simpa using h1, hw⟩))

/-! _law_point(deck, width) -/
abbrev sPt : Stmt := top 44
theorem scPt : FnScope ["_law_deck_here", "_law_width", "_law_at"] ["_law_deck_here", "_law_width"] (defScope sPt) := ⟨rfl, rfl, rfl, by decide +kernel, rfl, by decide +kernel, by decide +kernel⟩
def PointP (n : Nat) : D → Prop := fun d => ∃ p : List Int, d = wallD p ∧ p.length = n ∧ (∀ x ∈ p, x.natAbs ≤ 6) ∧ 1 ≤ p.getD (n - 1) 0
def pcPt : List AD → (D → Prop) → Prop := fun ads R => ∃ n : Nat, ads = [.deck, .dat (.int n)] ∧ 2 ≤ n ∧ n ≤ 8 ∧ R = PointP n
theorem ok_Pt (m : Mg mg) (F : Fun K "_law_point" "_law_point" sPt f fd) (hDraw : Has P w K mg base k "_law_draw" (spD K pcDraw)) (hItem : Has P w K mg base k "_law_item" (spD K pcItem)) :
    FnOk P w K mg base CX0 (k + 1) f fd ["_law_deck_here", "_law_width"] (spD K pcPt) := by
  refine fn_mkD F scPt (fun ads R h => by obtain ⟨_, rfl, _⟩ := h; rfl) fun c ads R h hz => ?_
  obtain ⟨n, rfl, h2, h8, rfl⟩ := h
  exact run_one (rs_retP (P := PointP n) (ev_catTP (PA := WallP (n - 1) 6) (PB := fun d => ∃ j : Int, 1 ≤ j ∧ j ≤ 6 ∧ d = wallD [j]) (ev_tupRange (n := n - 1) (q := fun x => x.natAbs ≤ 6) (iv := 2) (vn := "_law_at") (by omega) rfl m.tuple rfl m.range ((ev_sub (by walk_at "var") ev_int).is (by congr 1; omega)) (by walk_at "blk") (by walk_at "sto")
    (fun d => ev_callD (PA := (· = [.deck, .dat (.int (6 : Nat))])) (Pc := pcItem) ⟨hItem⟩ rfl (ed_deck 0 rfl (by walk_at "vis") rfl (ed_dat ev_int ed_nil)) (fun l hl => ⟨_, ⟨6, hl, by decide, rfl⟩, fun d hd => hd⟩)))
    (ev_tupP (R := fun l => ∃ j : Int, 1 ≤ j ∧ j ≤ 6 ∧ l = [.int j]) (ea_consP (P := IsI (fun i => 1 ≤ i ∧ i ≤ 6)) (R := (· = [])) (ev_addP (p := (· = 1)) (q := fun j => 0 ≤ j ∧ j < 6) (ev_int.imp isI) (ev_draw ⟨hDraw⟩ rfl (i := 0) (q := (· = 6)) rfl (by walk_at "vis") rfl (ev_int.imp isI) (fun m hm => by omega) (fun m j hm h0 hj => by subst hm; exact ⟨h0, hj⟩)) (fun i j hi hj => by subst hi; omega)) ea_nil
      (fun d l hd hl => by obtain ⟨i, rfl, g1, g2⟩ := hd; subst hl; exact ⟨i, g1, g2, rfl⟩)) (fun l hl => by obtain ⟨_, _, _, rfl⟩ := hl; show 1 ≤ 100000; decide) (fun l hl => by obtain ⟨j, g1, g2, rfl⟩ := hl; exact ⟨j, g1, g2, rfl⟩))
    (fun x y hx hy => by
      obtain ⟨r, rfl, g1, g2⟩ := hx
      obtain ⟨j, g3, g4, rfl⟩ := hy
      refine ⟨_, _, rfl, rfl, by simp [g1]; show _ ≤ 100000; omega, r ++ [j], by unfold wallD; rw [List.map_append], by simp [g1]; omega, fun x hx => ?_, ?_⟩
      · rcases List.mem_append.mp hx with h | h
        · exact g2 x h
        · simp at h; omega
      · rw [getD_append_r _ _ _ (by omega), g1, Nat.sub_self]; exact g3))
    (fun d hd => hd))

/-! _law_value(shut, point) -/
abbrev sVal : Stmt := top 39
theorem scVal : FnScope ["_law_shut", "_law_point_here", "_law_x", "_law_y"] ["_law_shut", "_law_point_here"] (defScope sVal) := ⟨rfl, rfl, rfl, by decide +kernel, rfl, by decide +kernel, by decide +kernel⟩
def dotL (r p : List Int) : Int := ((r.zip p).map (fun z => z.1 * z.2)).sum
theorem dot_cons {n : Nat} {x y : Int} {r p : List Int} : dotn (n + 1) (x :: r) (y :: p) = x * y + dotn n r p := by
  unfold dotn
  have h : ∀ (m : Nat) (g : Nat → Int), Sg.sumTo (m + 1) g = g 0 + Sg.sumTo m (fun i => g (i + 1)) := by
    intro m g
    induction m with
    | zero => simp [Sg.sumTo]
    | succ m ih => rw [Sg.sumTo, ih]; simp only [Sg.sumTo]; omega
  rw [h]; rfl
theorem dotL_dotn : ∀ {n : Nat} {r p : List Int}, r.length = n → p.length = n → dotL r p = dotn n r p
  | 0, [], [], _, _ => rfl
  | n + 1, x :: r, y :: p, h1, h2 => by
    rw [dot_cons, ← dotL_dotn (by simpa using h1) (by simpa using h2)]
    unfold dotL; simp
  | 0, _ :: _, _, h, _ => by simp at h
  | 0, [], _ :: _, _, h => by simp at h
  | _ + 1, [], _, h, _ => by simp at h
  | _ + 1, _ :: _, [], _, h => by simp at h
def pcVal : List AD → (D → Prop) → Prop := fun ads R => ∃ (n : Nat) (r p : List Int), ads = [.dat (wallD r), .dat (wallD p)] ∧ r.length = n ∧ p.length = n ∧ n ≤ 1000 ∧ SmRow r ∧ SmRow p ∧ R = (· = .int (dotn n r p))
theorem ok_Val (m : Mg mg) (F : Fun K "_law_value" "_law_value" sVal f fd) : FnOk P w K mg base CX0 (k + 1) f fd ["_law_shut", "_law_point_here"] (spD K pcVal) := by
  refine fn_mkD F scVal (fun ads R h => by obtain ⟨_, _, _, rfl, _⟩ := h; rfl) fun c ads R h hz => ?_
  obtain ⟨n, r, p, rfl, hr, hp, hl, sr, sp, rfl⟩ := h
  rw [← dotL_dotn hr hp]
  refine run_one (rs_ret (ev_sum (ns := (r.zip p).map (fun z => z.1 * z.2)) rfl m.sum ((ev_lc (ef_map [("_law_x", 2), ("_law_y", 3)] (items := zipL (r.map PyData.int) (p.map PyData.int)) (pairF (fun a b => a * b)) (by walk_at "blk") (wk_zip rfl m.zip (by walk_at "var") (by walk_at "var") (.inr ⟨rfl, rfl⟩)) (tg_two (i := 2) (j := 3) (by walk_at "sto") (by walk_at "sto")) ?_ ?_)).is ?_)) rfl)
  · rw [zip_ints, List.length_map, List.length_zip]; show _ ≤ 100000; omega
  · intro d hd
    rw [zip_ints] at hd
    obtain ⟨z, hz', rfl⟩ := List.mem_map.mp hd
    have m1 := (List.of_mem_zip hz').1
    have m2 := (List.of_mem_zip hz').2
    exact ⟨[(2, .int z.1), (3, .int z.2)], ⟨_, _, rfl, rfl⟩, by simp, ev_mul (i := z.1) (j := z.2) (by walk_at "var") (by walk_at "var") (Sm.mul (sr _ m1) (sp _ m2))⟩
  · rw [zip_ints, List.map_map, List.map_map]; rfl
end

end K8

set_option Elab.async false
set_option maxRecDepth 100000
set_option exponentiation.threshold 2000
set_option linter.all false
set_option maxHeartbeats 1000000
namespace K8
open PySem L2 Dl
local macro_rules | `(tactic| walk_at "vis") => `(tactic| first | exact Or.inl rfl | exact Or.inr (Or.inl rfl) | exact Or.inr (Or.inr rfl))
local macro_rules | `(tactic| walk_at "sto") => `(tactic| first | exact ⟨rfl, Or.inl rfl, Or.inl rfl⟩ | exact ⟨rfl, Or.inl rfl, Or.inr rfl⟩ | exact ⟨rfl, Or.inr rfl, Or.inl rfl⟩)
local macro_rules | `(tactic| walk_at "var") => `(tactic| first
  | exact ev_var 0 rfl (by walk_at "vis") rfl | exact ev_var 1 rfl (by walk_at "vis") rfl | exact ev_var 2 rfl (by walk_at "vis") rfl | exact ev_var 3 rfl (by walk_at "vis") rfl
  | exact ev_var 4 rfl (by walk_at "vis") rfl | exact ev_var 5 rfl (by walk_at "vis") rfl | exact ev_var 6 rfl (by walk_at "vis") rfl | exact ev_var 7 rfl (by walk_at "vis") rfl
  | exact ev_var 8 rfl (by walk_at "vis") rfl | exact ev_var 9 rfl (by walk_at "vis") rfl | exact ev_var 10 rfl (by walk_at "vis") rfl | exact ev_var 11 rfl (by walk_at "vis") rfl
  | exact ev_var 12 rfl (by walk_at "vis") rfl | exact ev_var 13 rfl (by walk_at "vis") rfl | exact ev_var 14 rfl (by walk_at "vis") rfl | exact ev_var 15 rfl (by walk_at "vis") rfl)

local macro_rules | `(tactic| walk_at "ev") => `(tactic| first
  | exact ev_int | exact ev_bl | exact ev_str | exact ev_non
  | walk_at "var"
  | (refine ev_neg ?_ <;> walk_at "ev")
  | (refine ev_add ?_ ?_ <;> walk_at "ev")
  | (refine ev_sub ?_ ?_ <;> walk_at "ev"))

local macro_rules | `(tactic| walk_at "blk") => `(tactic| (dsimp only; decide +kernel))
theorem cut_init {α : Type} (l : List α) (h : 1 ≤ l.length) : cutD l none (some (-1)) = l.dropLast := by
  unfold cutD; rw [HT.sIx_none]
  have e : HT.sIx l.length l.length (some (-1)) = l.length - 1 := by
    unfold HT.sIx; simp; omega
  rw [e, List.drop_zero, Nat.sub_zero, List.dropLast_eq_take]
def fitsB (ws : List (List Int)) : Bool := ws.all (fun r => r.all (fun x => decide (x.natAbs ≤ 1000000)))
def bigD : D → Bool
  | .int x => decide (1000000 < (x.natAbs : Int))
  | _ => false
def keepW : D → Bool
  | .tuple l => !PyData.eqv (.list ((l.filter bigD).map id)) (.list [])
  | _ => false
theorem filter_big (r : List Int) : (r.map PyData.int).filter bigD = (r.filter (fun x => decide (1000000 < x.natAbs))).map PyData.int := by
  induction r with
  | nil => rfl
  | cons x r ih =>
    rw [List.map_cons, List.filter_cons, List.filter_cons, ih]
    have e : bigD (.int x) = decide (1000000 < x.natAbs) := by unfold bigD; simp only [decide_eq_decide]; omega
    rw [e]; split <;> rfl
theorem keepW_wall (r : List Int) : keepW (wallD r) = !(r.all (fun x => decide (x.natAbs ≤ 1000000))) := by
  unfold keepW wallD
  simp only [List.map_id]
  rw [filter_big, eqv_nil]
  congr 1
  rw [Bool.eq_iff_iff]
  simp only [decide_eq_true_eq, List.filter_eq_nil_iff, List.all_eq_true]
  constructor
  · intro h x hx; have := h x hx; omega
  · intro h x hx; have := h x hx; omega
theorem filter_keep (ws : List (List Int)) : ((ws.map wallD).filter keepW = []) ↔ fitsB ws = true := by
  unfold fitsB
  rw [List.filter_eq_nil_iff, List.all_eq_true]
  constructor
  · intro h r hr
    have := h (wallD r) (List.mem_map.mpr ⟨r, hr, rfl⟩)
    rw [keepW_wall] at this
    simpa using this
  · intro h d hd
    obtain ⟨r, hr, rfl⟩ := List.mem_map.mp hd
    rw [keepW_wall, h r hr]; simp
theorem ones (l : List D) : (l.map (fun _ => PyData.int 1)) = (l.map (fun _ => (1 : Int))).map PyData.int := by rw [List.map_map]; rfl
section
variable {P : Program} {w : World} {K : Frag} {mg : Str → Option Value} {base : Heap} {k : Nat} {f : Addr} {fd : FuncData}
/-! _law_fits(shuts) -/
abbrev sFi : Stmt := top 47
theorem scFi : FnScope ["_law_shuts", "_law_shut", "_law_x"] ["_law_shuts"] (defScope sFi) := ⟨rfl, rfl, rfl, by decide +kernel, rfl, by decide +kernel, by decide +kernel⟩
def pcFi : List AD → (D → Prop) → Prop := fun ads R => ∃ (ws : List (List Int)) (d : D), ads = [.dat d] ∧ (d = .list (ws.map wallD) ∨ d = .tuple (ws.map wallD)) ∧ ws.length ≤ Lm ∧ (∀ r ∈ ws, r.length ≤ Lm) ∧ R = (· = .bool (fitsB ws))
theorem ok_Fi (m : Mg mg) (F : Fun K "_law_fits" "_law_fits" sFi f fd) : FnOk P w K mg base CX0 (k + 1) f fd ["_law_shuts"] (spD K pcFi) := by
  refine fn_mkD F scFi (fun ads R h => by obtain ⟨_, _, rfl, _⟩ := h; rfl) fun c ads R h hz => ?_
  obtain ⟨ws, d0, rfl, hd0, hl, hr, rfl⟩ := h
  refine run_one (rs_ret (ev_eq (d := .list (((ws.map wallD).filter keepW).map (fun _ => PyData.int 1))) (e := .list []) (ev_lc (ef_filter [("_law_shut", 1)] (items := ws.map wallD) keepW (fun _ => .int 1) (by walk_at "blk") (by rcases hd0 with rfl | rfl; exact wk_list (by walk_at "var"); exact wk_tup (by walk_at "var")) (tg_name (i := 1) (by walk_at "sto")) (by simpa using hl) ?_)) (ev_lst ea_nil (hl := by show 0 ≤ 100000; decide)) ?_ (by decide +kernel)) ?_)
  · intro d hd
    obtain ⟨r, hr', rfl⟩ := mem_wall hd
    refine ⟨_, rfl, by simp, et_ne (d := .list (((r.map PyData.int).filter bigD).map id)) (e := .list []) (ev_lc (ef_filter [("_law_x", 2)] (items := r.map PyData.int) bigD id (by dsimp only [Inf.blk]; decide +kernel) (wk_tup (by walk_at "var")) (tg_name (i := 2) (by walk_at "sto")) (by rw [List.length_map]; exact hr r hr') ?_)) (ev_lst ea_nil (hl := by show 0 ≤ 100000; decide)) ?_ (by decide +kernel), fun _ => ev_int⟩
    · intro d hd
      obtain ⟨x, hx, rfl⟩ := mem_int hd
      exact ⟨_, rfl, by simp, et_gt (i := (x.natAbs : Int)) (j := 10 ^ Int.toNat 6) (ev_abs rfl m.abs (by walk_at "var")) (ev_powC (i := 10) (j := 6) ev_int ev_int ⟨by decide, by decide, by decide⟩), fun _ => by walk_at "var"⟩
    · rw [List.map_id, filter_big]; exact shaped_ints _
  · rw [ones]; exact shaped_ints _
  · rw [ones, eqv_nil]
    show PyData.bool _ = _
    congr 1
    rw [Bool.eq_iff_iff, decide_eq_true_iff, ← filter_keep]
    simp
end

end K8

set_option Elab.async false
set_option maxRecDepth 100000
set_option exponentiation.threshold 2000
set_option linter.all false
set_option maxHeartbeats 1000000
namespace K8
open PySem L2 Dl
local macro_rules | `(tactic| walk_at "vis") => `(tactic| first | exact Or.inl rfl | exact Or.inr (Or.inl rfl) | exact Or.inr (Or.inr rfl))
local macro_rules | `(tactic| walk_at "sto") => `(tactic| first | exact ⟨rfl, Or.inl rfl, Or.inl rfl⟩ | exact ⟨rfl, Or.inl rfl, Or.inr rfl⟩ | exact ⟨rfl, Or.inr rfl, Or.inl rfl⟩)
local macro_rules | `(tactic| walk_at "var") => `(tactic| first
  | exact ev_var 0 rfl (by walk_at "vis") rfl | exact ev_var 1 rfl (by walk_at "vis") rfl | exact ev_var 2 rfl (by walk_at "vis") rfl | exact ev_var 3 rfl (by walk_at "vis") rfl
  | exact ev_var 4 rfl (by walk_at "vis") rfl | exact ev_var 5 rfl (by walk_at "vis") rfl | exact ev_var 6 rfl (by walk_at "vis") rfl | exact ev_var 7 rfl (by walk_at "vis") rfl
  | exact ev_var 8 rfl (by walk_at "vis") rfl | exact ev_var 9 rfl (by walk_at "vis") rfl | exact ev_var 10 rfl (by walk_at "vis") rfl | exact ev_var 11 rfl (by walk_at "vis") rfl
  | exact ev_var 12 rfl (by walk_at "vis") rfl | exact ev_var 13 rfl (by walk_at "vis") rfl | exact ev_var 14 rfl (by walk_at "vis") rfl | exact ev_var 15 rfl (by walk_at "vis") rfl)

local macro_rules | `(tactic| walk_at "ev") => `(tactic| first
  | exact ev_int | exact ev_bl | exact ev_str | exact ev_non
  | walk_at "var"
  | (refine ev_neg ?_ <;> walk_at "ev")
  | (refine ev_add ?_ ?_ <;> walk_at "ev")
  | (refine ev_sub ?_ ?_ <;> walk_at "ev"))

local macro_rules | `(tactic| walk_at "blk") => `(tactic| (dsimp only; decide +kernel))
theorem wallP_small {n B : Nat} {r : List Int} (h : ∀ x ∈ r, x.natAbs ≤ B) (hB : B ≤ 2 ^ 40) : SmRow r := fun x hx => by
  have := h x hx
  unfold Sm
  exact Nat.lt_of_le_of_lt (Nat.le_trans this hB) (by decide)
section
variable {P : Program} {w : World} {K : Frag} {mg : Str → Option Value} {base : Heap} {k : Nat} {f : Addr} {fd : FuncData}
/-! _law_toward(shut, point, least) -/
abbrev sTo : Stmt := top 45
theorem scTo : FnScope ["_law_shut", "_law_point_here", "_law_least", "_law_x"] ["_law_shut", "_law_point_here", "_law_least"] (defScope sTo) := ⟨rfl, rfl, rfl, by decide +kernel, rfl, by decide +kernel, by decide +kernel⟩
/-- a wall that a point keeps, by so much -/
def TowP (n : Nat) (p : List Int) (le : Int) : D → Prop := fun d => ∃ r : List Int, d = wallD r ∧ r.length = n ∧ (∀ x ∈ r, x.natAbs ≤ 1000000) ∧ le ≤ dotn n r p
def pcTo : List AD → (D → Prop) → Prop := fun ads R => ∃ (n : Nat) (r p : List Int) (le : Int), ads = [.dat (wallD r), .dat (wallD p), .dat (.int le)] ∧ 1 ≤ n ∧ n ≤ 8 ∧ r.length = n ∧ (∀ x ∈ r, x.natAbs ≤ 999999) ∧ p.length = n ∧ (∀ x ∈ p, x.natAbs ≤ 6) ∧ 1 ≤ p.getD (n - 1) 0 ∧ le ≤ 1 ∧ R = TowP n p le
theorem dot_snoc1 {n : Nat} {r p : List Int} (h1 : 1 ≤ n) (hl : r.length = n) (hne : r ≠ []) : dotn n (r.dropLast ++ [r.getLast hne + 1]) p = dotn n r p + p.getD (n - 1) 0 := by
  obtain ⟨k, rfl⟩ : ∃ k, n = k + 1 := ⟨n - 1, by omega⟩
  unfold dotn
  rw [Sg.sumTo, Sg.sumTo, Nat.add_sub_cancel]
  have e1 : Sg.sumTo k (fun i => (r.dropLast ++ [r.getLast hne + 1]).getD i 0 * p.getD i 0) = Sg.sumTo k (fun i => r.getD i 0 * p.getD i 0) := by
    refine Sg.sumTo_congr (fun i hi => ?_)
    rw [getD_append_l _ _ _ (by simp; omega)]
    rw [List.getD_eq_getElem?_getD, List.getElem?_dropLast, if_pos (by omega), ← List.getD_eq_getElem?_getD]
  have e2 : (r.dropLast ++ [r.getLast hne + 1]).getD k 0 = r.getD k 0 + 1 := by
    rw [getD_append_r _ _ _ (by simp; omega)]
    have : k - r.dropLast.length = 0 := by simp; omega
    rw [this]
    have : r.getLast hne = r.getD k 0 := by
      rw [List.getLast_eq_getElem, List.getD_eq_getElem?_getD, List.getElem?_eq_getElem (by omega)]
      simp [hl]
    rw [this]; rfl
  rw [e1, e2]; grind
theorem ok_To (m : Mg mg) (F : Fun K "_law_toward" "_law_toward" sTo f fd) (hVal : Has P w K mg base k "_law_value" (spD K pcVal)) : FnOk P w K mg base CX0 (k + 1) f fd ["_law_shut", "_law_point_here", "_law_least"] (spD K pcTo) := by
  refine fn_mkD F scTo (fun ads R h => by obtain ⟨_, _, _, _, rfl, _⟩ := h; rfl) fun c ads R h hz => ?_
  obtain ⟨n, r, p, le, rfl, h1, h8, hl, hr, hpl, hp, hpp, hle, rfl⟩ := h
  refine run_cons (Mid := fun ds' => ∃ r2 : List Int, r2.length = n ∧ (∀ x ∈ r2, x.natAbs ≤ 999999) ∧ 0 ≤ dotn n r2 p ∧ ds' = [.dat (wallD r2), .dat (wallD p), .dat (.int le), .un]) (rs_setP (i := 0) (P := fun d => ∃ r2 : List Int, d = wallD r2 ∧ r2.length = n ∧ (∀ x ∈ r2, x.natAbs ≤ 999999) ∧ 0 ≤ dotn n r2 p) (by walk_at "sto") (ev_if (PT := fun b => b = decide (0 ≤ dotn n r p)) (et_geP (p := (· = dotn n r p)) (q := (· = 0)) (ev_callD (PA := (· = [.dat (wallD r), .dat (wallD p)])) (Pc := pcVal) ⟨hVal⟩ rfl (ed_dat (by walk_at "var") (ed_dat (by walk_at "var") ed_nil)) (fun l hl' => ⟨_, ⟨n, r, p, hl', hl, hpl, by omega, wallP_small (n := n) hr (by decide), wallP_small (n := n) hp (by decide), rfl⟩, fun d hd => ⟨_, hd, rfl⟩⟩)) (ev_int.imp isI) (fun i j hi hj => by subst hi; subst hj; rfl))
    (fun ht => (ev_var 0 rfl (by walk_at "vis") rfl).imp (fun d hd => ⟨r, hd, hl, hr, of_decide_eq_true ht.symm⟩))
    (fun hf => ev_tupleP (PA := (· = rowD (negL r))) rfl m.tuple ((ev_lc (ef_map [("_law_x", 3)] (items := r.map PyData.int) (intF (- ·)) (by walk_at "blk") (wk_tup (by walk_at "var")) (tg_name (i := 3) (by walk_at "sto")) (by rw [List.length_map, hl]; exact Nat.le_trans h8 (by decide)) ?_)).is (by rw [map_intF]; rfl))
      (fun x hx => ⟨(negL r).map PyData.int, .inl hx, negL r, rfl, by unfold negL; rw [List.length_map, hl], fun x hx => by unfold negL at hx; obtain ⟨y, hy, rfl⟩ := List.mem_map.mp hx; rw [Int.natAbs_neg]; exact hr y hy, by rw [dot_neg]; have := of_decide_eq_false hf.symm; omega⟩)))
    (fun d hd => by obtain ⟨r2, rfl, g1, g2, g3⟩ := hd; exact ⟨r2, g1, g2, g3, rfl⟩)) ?_
  · intro d hd
    obtain ⟨x, hx, rfl⟩ := mem_int hd
    exact ⟨_, rfl, by simp, ev_neg (i := x) (by walk_at "var")⟩
  rintro ds' ⟨r2, hl2, hr2, hd2, rfl⟩
  have hne : r2 ≠ [] := fun e => by subst e; simp at hl2; omega
  have hsp : r2 = r2.dropLast ++ [r2.getLast hne] := (List.dropLast_concat_getLast hne).symm
  have hlast : (r2.getLast hne).natAbs ≤ 999999 := hr2 _ (List.getLast_mem hne)
  refine run_one (rs_retP (P := TowP n p le) (ev_if (PT := fun b => b = decide (le ≤ dotn n r2 p)) (et_geP (p := (· = dotn n r2 p)) (q := (· = le)) (ev_callD (PA := (· = [.dat (wallD r2), .dat (wallD p)])) (Pc := pcVal) ⟨hVal⟩ rfl (ed_dat (by walk_at "var") (ed_dat (by walk_at "var") ed_nil)) (fun l hl' => ⟨_, ⟨n, r2, p, hl', hl2, hpl, by omega, wallP_small (n := n) hr2 (by decide), wallP_small (n := n) hp (by decide), rfl⟩, fun d hd => ⟨_, hd, rfl⟩⟩)) ((ev_var 2 rfl (by walk_at "vis") rfl).imp isI) (fun i j hi hj => by subst hi; subst hj; rfl))
    (fun ht => (ev_var 0 rfl (by walk_at "vis") rfl).imp (fun d hd => ⟨r2, hd, hl2, fun x hx => Nat.le_trans (hr2 x hx) (by decide), of_decide_eq_true ht.symm⟩))
    (fun _ => ev_catTP (PA := (· = wallD r2.dropLast)) (PB := (· = wallD [r2.getLast hne + 1])) ((ev_slT (l := r2.map PyData.int) (by walk_at "var") eo_none (eo_some (ev_neg ev_int))).is ?_) (ev_tup (ea_cons (ev_add (i := r2.getLast hne) (j := 1) (ev_ixT (l := r2.map PyData.int) (by walk_at "var") (ev_neg ev_int) ?_) ev_int) ea_nil) (hl := by show 1 ≤ 100000; decide)) (fun x y hx hy => ?_))) (fun d hd => hd))
  · rw [cut_init _ (by rw [List.length_map]; omega), ← List.map_dropLast]; rfl
  · conv => lhs; rw [hsp]
    rw [List.map_append]; exact atI_last _ _
  · subst hx; subst hy
    refine ⟨_, _, rfl, rfl, by simp; show _ ≤ 100000; omega, r2.dropLast ++ [r2.getLast hne + 1], by unfold wallD; rw [List.map_append], by simp; omega, fun x hx => ?_, by rw [dot_snoc1 h1 hl2 hne]; omega⟩
    rcases List.mem_append.mp hx with h | h
    · exact Nat.le_trans (hr2 x ((List.dropLast_sublist _).subset h)) (by decide)
    · simp at h; subst h; omega
end

end K8

set_option Elab.async false
set_option maxRecDepth 100000
set_option exponentiation.threshold 2000
set_option linter.all false
set_option maxHeartbeats 1000000
namespace K8
open PySem L2 Dl
local macro_rules | `(tactic| walk_at "vis") => `(tactic| first | exact Or.inl rfl | exact Or.inr (Or.inl rfl) | exact Or.inr (Or.inr rfl))
local macro_rules | `(tactic| walk_at "sto") => `(tactic| first | exact ⟨rfl, Or.inl rfl, Or.inl rfl⟩ | exact ⟨rfl, Or.inl rfl, Or.inr rfl⟩ | exact ⟨rfl, Or.inr rfl, Or.inl rfl⟩)
local macro_rules | `(tactic| walk_at "var") => `(tactic| first
  | exact ev_var 0 rfl (by walk_at "vis") rfl | exact ev_var 1 rfl (by walk_at "vis") rfl | exact ev_var 2 rfl (by walk_at "vis") rfl | exact ev_var 3 rfl (by walk_at "vis") rfl
  | exact ev_var 4 rfl (by walk_at "vis") rfl | exact ev_var 5 rfl (by walk_at "vis") rfl | exact ev_var 6 rfl (by walk_at "vis") rfl | exact ev_var 7 rfl (by walk_at "vis") rfl
  | exact ev_var 8 rfl (by walk_at "vis") rfl | exact ev_var 9 rfl (by walk_at "vis") rfl | exact ev_var 10 rfl (by walk_at "vis") rfl | exact ev_var 11 rfl (by walk_at "vis") rfl
  | exact ev_var 12 rfl (by walk_at "vis") rfl | exact ev_var 13 rfl (by walk_at "vis") rfl | exact ev_var 14 rfl (by walk_at "vis") rfl | exact ev_var 15 rfl (by walk_at "vis") rfl)

local macro_rules | `(tactic| walk_at "ev") => `(tactic| first
  | exact ev_int | exact ev_bl | exact ev_str | exact ev_non
  | walk_at "var"
  | (refine ev_neg ?_ <;> walk_at "ev")
  | (refine ev_add ?_ ?_ <;> walk_at "ev")
  | (refine ev_sub ?_ ?_ <;> walk_at "ev"))

local macro_rules | `(tactic| walk_at "blk") => `(tactic| (dsimp only; decide +kernel))
section
open Sg
/-! what does not change what follows -/
theorem fol_iff {n : Nat} {a b a' b' : List (List Int)} {g g' : List Int} (h : Follows n a b g ↔ Follows n a' b' g') : fol n a b g = fol n a' b' g' := by
  unfold fol
  by_cases h1 : Follows n a b g
  · rw [@decide_eq_true _ (Classical.propDecidable _) h1, @decide_eq_true _ (Classical.propDecidable _) (h.mp h1)]
  · rw [@decide_eq_false _ (Classical.propDecidable _) h1, @decide_eq_false _ (Classical.propDecidable _) (fun z => h1 (h.mpr z))]
theorem fol_true {n : Nat} {a b : List (List Int)} {g : List Int} : fol n a b g = true ↔ Follows n a b g := by
  unfold fol
  exact @decide_eq_true_iff _ (Classical.propDecidable _)
theorem follows_mono {n : Nat} {a b a' b' : List (List Int)} {g : List Int} (h : ∀ p, Keeps n a' b' p → Keeps n a b p) (f : Follows n a b g) : Follows n a' b' g := fun p hp => f p (h p hp)
theorem follows_keeps {n : Nat} {a b a' b' : List (List Int)} {g : List Int} (h : ∀ p, Keeps n a' b' p ↔ Keeps n a b p) : fol n a b g = fol n a' b' g :=
  fol_iff ⟨follows_mono (fun p hp => (h p).mp hp), follows_mono (fun p hp => (h p).mpr hp)⟩
theorem keeps_mem {n : Nat} {a b a' b' : List (List Int)} (ha : ∀ w, w ∈ a' ↔ w ∈ a) (hb : ∀ w, w ∈ b' ↔ w ∈ b) (p : List Int) : Keeps n a' b' p ↔ Keeps n a b p :=
  ⟨fun ⟨h1, h2, h3, h4⟩ => ⟨h1, h2, fun w hw => h3 w ((ha w).mpr hw), fun w hw => h4 w ((hb w).mpr hw)⟩, fun ⟨h1, h2, h3, h4⟩ => ⟨h1, h2, fun w hw => h3 w ((ha w).mp hw), fun w hw => h4 w ((hb w).mp hw)⟩⟩
def mulL (k : Int) (g : List Int) : List Int := g.map (k * ·)
theorem getD_mulL (k : Int) (g : List Int) (i : Nat) : (mulL k g).getD i 0 = k * g.getD i 0 := by
  unfold mulL
  by_cases h : i < g.length
  · rw [getD_map_lt _ _ 0 _ h]
  · rw [List.getD_eq_getElem?_getD, List.getD_eq_getElem?_getD, List.getElem?_eq_none (by simp; omega), List.getElem?_eq_none (by omega)]; simp
theorem dot_mul {n : Nat} {k : Int} {g p : List Int} : dotn n (mulL k g) p = k * dotn n g p := by
  unfold dotn
  rw [← sumTo_mul]
  exact sumTo_congr (fun i _ => by rw [getD_mulL]; grind)
theorem nonneg_mul {k x : Int} (hk : 0 < k) : 0 ≤ k * x ↔ 0 ≤ x := by
  constructor
  · intro h; exact nonneg_div hk (by rw [Int.mul_comm]; exact h)
  · intro h; exact Int.mul_nonneg (by omega) h
theorem fol_times {n : Nat} {a b : List (List Int)} {g : List Int} {k : Int} (hk : 0 < k) : fol n a b (mulL k g) = fol n a b g :=
  fol_iff ⟨fun h p hp => (nonneg_mul hk).mp (by rw [← dot_mul]; exact h p hp), fun h p hp => by rw [dot_mul]; exact (nonneg_mul hk).mpr (h p hp)⟩
theorem dot_zero {n m : Nat} {p : List Int} : dotn n (List.replicate m 0) p = 0 := by
  unfold dotn
  exact sumTo_zero (fun i _ => by rw [getD_rep0]; simp)
/-- walls that say the same: each of the one is a multiple of one of the other, or of zeros -/
theorem keeps_alike {n : Nat} {a a' b : List (List Int)} (h1 : ∀ w ∈ a', (∃ k u, 0 < k ∧ u ∈ a ∧ w = mulL k u) ∨ ∃ m, w = List.replicate m 0) (h2 : ∀ u ∈ a, ∃ k, 0 < k ∧ mulL k u ∈ a') (p : List Int) : Keeps n a' b p ↔ Keeps n a b p := by
  constructor
  · rintro ⟨q1, q2, q3, q4⟩
    refine ⟨q1, q2, fun u hu => ?_, q4⟩
    obtain ⟨k, hk, hm⟩ := h2 u hu
    have := q3 _ hm
    rw [dot_mul] at this
    exact (nonneg_mul hk).mp this
  · rintro ⟨q1, q2, q3, q4⟩
    refine ⟨q1, q2, fun w hw => ?_, q4⟩
    rcases h1 w hw with ⟨k, u, hk, hu, rfl⟩ | ⟨m, rfl⟩
    · rw [dot_mul]; exact (nonneg_mul hk).mpr (q3 u hu)
    · rw [dot_zero]; exact Int.le_refl 0
theorem follows_trans {n : Nat} {a b near : List (List Int)} {g : List Int} (h : ∀ w ∈ near, Follows n a b w) (f : Follows n near [] g) : Follows n a b g :=
  fun p hp => f p ⟨hp.1, hp.2.1, fun w hw => h w hw p hp, fun w hw => by simp at hw⟩
theorem empty_all {n : Nat} {a b : List (List Int)} {g : List Int} (h : Empty n a b) : Follows n a b g := fun p hp => absurd hp (h p)
/-- a strict for a wall, more walls -/
theorem keeps_less {n : Nat} {a b a' b' : List (List Int)} {p : List Int} (ha : ∀ w ∈ a, w ∈ a' ∨ w ∈ b') (hb : ∀ w ∈ b, w ∈ b') (h : Keeps n a' b' p) : Keeps n a b p :=
  ⟨h.1, h.2.1, fun w hw => by
    rcases ha w hw with z | z
    · exact h.2.2.1 w z
    · have := h.2.2.2 w z; omega, fun w hw => h.2.2.2 w (hb w hw)⟩
/-! sums with weights -/
def addL (x y : List Int) : List Int := (x.zip y).map (fun z => z.1 + z.2)
theorem getD_addL {x y : List Int} {i : Nat} (hl : x.length = y.length) : (addL x y).getD i 0 = x.getD i 0 + y.getD i 0 := by
  unfold addL
  by_cases h : i < x.length
  · rw [getD_zip _ _ _ h (by omega)]
  · rw [List.getD_eq_getElem?_getD, List.getD_eq_getElem?_getD, List.getD_eq_getElem?_getD, List.getElem?_eq_none (by simp; omega), List.getElem?_eq_none (by omega), List.getElem?_eq_none (by omega)]; rfl
theorem dot_add {n : Nat} {x y p : List Int} (hl : x.length = y.length) : dotn n (addL x y) p = dotn n x p + dotn n y p := by
  unfold dotn
  rw [← sumTo_add]
  exact sumTo_congr (fun i _ => by rw [getD_addL hl]; grind)
/-- the sum of walls times weights, from a wall on -/
def totL : List Int → List (List Int) → List Int → List Int
  | f, w :: ws, k :: ks => totL (addL f (mulL k w)) ws ks
  | f, _, _ => f
theorem totL_dot {n : Nat} {p : List Int} : ∀ (ws : List (List Int)) (ks : List Int) (f : List Int), f.length = n → (∀ w ∈ ws, w.length = n) → (∀ k ∈ ks, 0 ≤ k) → (∀ w ∈ ws, 0 ≤ dotn n w p) → 0 ≤ dotn n f p → 0 ≤ dotn n (totL f ws ks) p
  | [], _, f, _, _, _, _, h => by unfold totL; exact h
  | _ :: _, [], f, _, _, _, _, h => by unfold totL; exact h
  | w :: ws, k :: ks, f, hf, hl, hk, hw, h => by
    unfold totL
    have hwl := hl w (by simp)
    have hml : (mulL k w).length = n := by unfold mulL; rw [List.length_map]; exact hwl
    refine totL_dot ws ks _ (by unfold addL; rw [List.length_map, List.length_zip, hf, hml]; simp) (fun u hu => hl u (by simp [hu])) (fun u hu => hk u (by simp [hu])) (fun u hu => hw u (by simp [hu])) ?_
    rw [dot_add (by rw [hf, hml]), dot_mul]
    have := Int.mul_nonneg (hk k (by simp)) (hw w (by simp))
    omega
/-- a sum of walls, stricts and the bound follows -/
theorem follows_sum {n : Nat} {a b ws : List (List Int)} {ks : List Int} {f : List Int} (hf : f.length = n) (hl : ∀ w ∈ ws, w.length = n) (hk : ∀ k ∈ ks, 0 ≤ k) (hw : ∀ w ∈ ws, w ∈ a ∨ w ∈ b) (h0 : ∀ p, Keeps n a b p → 0 ≤ dotn n f p) : Follows n a b (totL f ws ks) :=
  fun p hp => totL_dot ws ks f hf hl hk (fun w h => by
    rcases hw w h with z | z
    · exact hp.2.2.1 w z
    · have := hp.2.2.2 w z; omega) (h0 p hp)
end

end K8

set_option Elab.async false
set_option maxRecDepth 100000
set_option linter.all false
set_option maxHeartbeats 2000000
namespace Dl
open PySem PySem.Spec PyProof.Rows L2
section
variable {I : Inf} {c : Ct} {ds : List SD} {A : After} {a b e : Expr} {P PA PB : D → Prop} {pos : Pos} {d : D}
theorem wk_tupP {tg : Expr} {PL : List D → Prop} (h : EvE I c e ds (fun d => ∃ l, d = .tuple l ∧ PL l)) : Walk I c tg e ds PL := fun X F =>
  ⟨_, pi_tup pe_w, fun σ G H s R k => h X F σ G H s _ fun v G1 H1 d x1 s1 r1 p1 => by
    obtain ⟨l, rfl, hl⟩ := p1
    obtain ⟨a, xs, rfl, h1, h2, h3⟩ := r1.tup'
    refine ⟨a, rfl, ⟨xs, by rw [F.K]; exact ex_t s1.ex h1⟩, ?_⟩
    have := k (Itt I.K a) G1 H1 l x1 s1 (yields_tup h1 h3) hl
    rw [F.K]; exact this⟩
/-- list(range(n)) -/
theorem ef_listRg {p p2 p3 : Pos} {n : Nat} (hg : I.sc.names.lookup ("list" : Str) = some .globalImplicit) (hm : I.mg "list" = none) (hg2 : I.sc.names.lookup ("range" : Str) = some .globalImplicit) (hm2 : I.mg "range" = none)
    (h : EvE I c e ds (· = .int (n : Nat))) (hn : n ≤ 10000)
    (hs : ∀ X, Fits I X → starEach [e] X.env = (false, eval e X.env) :: starEach [] X.env := by intros; rfl)
    (hs2 : ∀ X, Fits I X → starEach [.Call (.Name "range" p2) [e] [] p3] X.env = (false, eval (.Call (.Name "range" p2) [e] [] p3) X.env) :: starEach [] X.env := by intros; rfl) :
    EvF I c (.Call (.Name "list" p) [.Call (.Name "range" p2) [e] [] p3] [] pos) ds (· = intsD 0 n) := fun X F σ G H s Q k => by
  refine w_pe (pe_listRg F.calm (by show X.env.scope.names.lookup _ = _; rw [F.sc]; exact hg) (by rw [F.mg]; exact hm) (prg_1 (by show X.env.scope.names.lookup _ = _; rw [F.sc]; exact hg2) (by rw [F.mg]; exact hm2) pe_w (hs X F)) (hs2 X F)) ?_
  refine h X F σ G H s _ fun v G1 H1 d x1 s1 r1 p1 => ?_
  subst p1
  rw [r1.int']
  refine ⟨n, rfl, RgOk.of_le (by omega) (by omega) (by omega) (by omega), fun q nq => ?_⟩
  have nq0 : H q = none := by
    cases e : H q with
    | none => rfl
    | some o => exact absurd nq (x1.dom q (by rw [e]; exact fun z => nomatch z))
  have hr : rgV 0 (n : Int) = (List.range n).map fun i => V.int (0 + (i : Nat)) := by
    unfold rgV; rw [show ((n : Int) - 0).toNat = n by omega]
  have rp : RpA I.K G1 (intsD 0 n) (rgV 0 (n : Int)) := by
    rw [hr]
    unfold intsD
    have : ∀ l : List Nat, RpA I.K G1 (l.map fun i : Nat => PyData.int (0 + (i : Nat))) (l.map fun i : Nat => V.int (0 + (i : Nat))) := by
      intro l
      induction l with
      | nil => exact RpA.nil
      | cons x l ih => exact RpA.cons (by unfold Rp; rfl) ih
    exact this _
  exact k q _ G1 (upd H1 q (.lst (rgV 0 (n : Int)))) (intsD 0 n) ⟨x1.g, fun a o h1 h2 => by rw [upd_ne (fun e => by subst e; rw [x1.h a o h1 h2] at nq; cases nq)]; exact x1.h a o h1 h2, x1.nw, fun p h1 h2 => by
    by_cases e : p = q
    · subst e; rw [upd_same] at h2; cases h2
    · rw [upd_ne e] at h2; exact x1.dom p h1 h2⟩ (State.aside s1 nq) nq0 (s1.gnone nq) (s1.ndeck nq) (by rw [intsD_length]; exact Nat.le_trans hn (by decide)) upd_same rp rfl
end
end Dl


set_option Elab.async false
set_option maxRecDepth 100000
set_option linter.all false
set_option maxHeartbeats 2000000
namespace Dl
open PySem PySem.Spec PyProof.Rows L2
section
variable {I : Inf} {c : Ct} {ds : List SD} {a b e : Expr} {P PA PB : D → Prop} {pos : Pos} {d : D}
theorem rv_isB {x y : Bool} (hp : P (.bool (decide (x = y)))) : Rv I c ds rIsB (.bool x) (.bool y) P := fun σ G H u v s rx ry Q k => by
  rw [rx.bl', ry.bl']; exact ⟨x, y, rfl, rfl, k.now s .bl hp⟩
theorem rv_notB {x y : Bool} (hp : P (.bool (!decide (x = y)))) : Rv I c ds rNotB (.bool x) (.bool y) P := fun σ G H u v s rx ry Q k => by
  rw [rx.bl', ry.bl']; exact ⟨x, y, rfl, rfl, k.now s .bl hp⟩
theorem ev_isB {x y : Bool} (ha : EvE I c a ds (· = .bool x)) (hb : EvE I c b ds (· = .bool y)) : EvE I c (.Compare a [.Is] [b] pos) ds (· = .bool (decide (x = y))) :=
  ev_cmp (fun _ _ => op_isBl) (nobehind _ (by decide) (by decide)) ha hb fun d e hi hj => by rw [hi, hj]; exact rv_isB rfl
theorem ev_notB {x y : Bool} (ha : EvE I c a ds (· = .bool x)) (hb : EvE I c b ds (· = .bool y)) : EvE I c (.Compare a [.IsNot] [b] pos) ds (· = .bool (!decide (x = y))) :=
  ev_cmp (fun _ _ => op_notBl) (nobehind _ (by decide) (by decide)) ha hb fun d e hi hj => by rw [hi, hj]; exact rv_notB rfl
theorem et_isB {x y : Bool} (ha : EvE I c a ds (· = .bool x)) (hb : EvE I c b ds (· = .bool y)) : EvT I c (.Compare a [.Is] [b] pos) ds (· = decide (x = y)) :=
  et_cmp (fun _ _ => op_isBl) (nobehind _ (by decide) (by decide)) ha hb fun d e hi hj => by rw [hi, hj]; exact rv_isB rfl
theorem et_notB {x y : Bool} (ha : EvE I c a ds (· = .bool x)) (hb : EvE I c b ds (· = .bool y)) : EvT I c (.Compare a [.IsNot] [b] pos) ds (· = !decide (x = y)) :=
  et_cmp (fun _ _ => op_notBl) (nobehind _ (by decide) (by decide)) ha hb fun d e hi hj => by rw [hi, hj]; exact rv_notB rfl
def boolS (b : Bool) : Str := if b then "True" else "False"
theorem call_repr_bl {X : Cx} : CallR X (.builtin "repr") (fun xs H Q => ∃ b : Bool, xs = [.bl b] ∧ Q (.str (boolS b)) H) := by
  intro pins s σ H xs us Q J r h
  obtain ⟨b, rfl, q⟩ := h
  obtain ⟨u, rfl, e⟩ := vals1 r
  cases (show u = Value.bool b from e)
  refine PySem.P.repr_of_bool ⟨.str _, H, J.tok _, ⟨_, rfl⟩, ?_⟩
  exact q
theorem ev_reprB {b : Bool} {p : Pos} (hg : I.sc.names.lookup ("repr" : Str) = some .globalImplicit) (hm : I.mg "repr" = none) (ha : EvE I c e ds (· = .bool b)) (hs : ∀ X, Fits I X → starEach [e] X.env = (false, eval e X.env) :: starEach [] X.env := by intros; rfl) :
    EvE I c (.Call (.Name "repr" p) [e] [] pos) ds (· = .str (boolS b)) :=
  ev_callB (id := "repr") (fun X F => call_repr_bl) hg hm (by decide +kernel) (ea_1 ha hs) (he := hs) (fun l ⟨d, hl, hd⟩ σ G H vs s r Q k => by
    subst hl; subst hd
    obtain ⟨v, rfl, r1⟩ := rpa1 r
    rw [r1.bl']
    exact ⟨b, rfl, k.now s .str rfl⟩)
end
end Dl


set_option Elab.async false
set_option maxRecDepth 100000
set_option linter.all false
set_option maxHeartbeats 2000000
namespace Dl
open PySem PySem.Spec PyProof.Rows L2
theorem pe_callK0 {X : Cx} {CX : CXT} {k : Nat} {f : Addr} {fd : FuncData} {ps ks : List Str} {sp : Sp} {E : XK} {x : Str} {kws : List Keyword} {tk : TA} {p pos : Pos} {g : List Value → List Value → List Value} {gV : List V → List V → List V}
    (F : FnOk X.prog X.w X.K X.mg X.base CX k f fd ps sp) (hr : Room k X.A) (hg : Gl X x) (hm : X.mg x = some (.ref f)) (hk : PySem.W.keepIn X.K (.ref f) = true) (hb : KBinds X.K fd ps ks g gV) (hx : Passes CX X E) (hkw : PK X kws tk)
    (hall : (backToKw pos (keywordEach kws X.env)).all (·.1.isSome) = true := by rfl) (hks : (backToKw pos (keywordEach kws X.env)).filterMap (·.1) = ks := by rfl) (hdb : (x == ("__debug__" : Str)) = false := by decide)
    (hpl : ((backTo pos (starEach [] X.env)).any (·.1) || (backToKw pos (keywordEach kws X.env)).any (·.1.isNone)) = false := by rfl) :
    PE X (.Call (.Name x p) [] kws pos) (fun σ H Q => tk σ H fun zs H2 => sp (gV [] zs) H2 Q E) := by
  refine ⟨fun pins s σ H Q I h => ?_⟩
  refine wpAny_Call_Name_kw (ld_glob I hg hm ?_ hdb)
  refine PySem.W.callWith_KW0 (h₀ := X.base) I.ok.mod.kin hk hall ?_ hpl
  refine thn (hkw.run pos pins s σ H _ I h) fun ws s2 ⟨zs, H2, I2, rz, q2⟩ => ⟨I2.kIn, ?_⟩
  rw [hks]
  exact run_fnk F hr hb hx I2 .nil rz q2
/-- a def with its four parameters by name, the last one first -/
structure FnK4 (I : Inf) (x k1 k2 k3 k4 : Str) (sp : Sp) : Prop where
  ok : ∃ (f : Addr) (fd : FuncData) (ps : List Str) (g : List Value → List Value → List Value) (gV : List V → List V → List V), I.mg x = some (.ref f) ∧ PySem.W.keepIn I.K (.ref f) = true ∧ KBinds I.K fd ps [k1, k2, k3, k4] g gV ∧ (∀ a b c d, gV [] [a, b, c, d] = [d, c, b, a]) ∧ FnOk I.prog I.w I.K I.mg I.base CX0 I.k f fd ps sp
section
variable {I : Inf} {c : Ct} {ds : List SD} {e1 e2 e3 e4 : Expr} {P : D → Prop} {pos p q1 q2 q3 q4 : Pos} {d1 d2 d3 d4 : D}
theorem ev_callK4 {x k1 k2 k3 k4 : Str} {Pc : List AD → (D → Prop) → Prop} {R : D → Prop} (hf : FnK4 I x k1 k2 k3 k4 (spD I.K Pc)) (hg : I.sc.names.lookup x = some .globalImplicit)
    (h1 : EvE I c e1 ds (· = d1)) (h2 : EvE I c e2 ds (· = d2)) (h3 : EvE I c e3 ds (· = d3)) (h4 : EvE I c e4 ds (· = d4)) (hc : Pc [.dat d4, .dat d3, .dat d2, .dat d1] R) (hp : ∀ d, R d → P d)
    (hall : ∀ X, Fits I X → (backToKw pos (keywordEach [⟨some k1, e1, q1⟩, ⟨some k2, e2, q2⟩, ⟨some k3, e3, q3⟩, ⟨some k4, e4, q4⟩] X.env)).all (·.1.isSome) = true := by intros; rfl)
    (hks : ∀ X, Fits I X → (backToKw pos (keywordEach [⟨some k1, e1, q1⟩, ⟨some k2, e2, q2⟩, ⟨some k3, e3, q3⟩, ⟨some k4, e4, q4⟩] X.env)).filterMap (·.1) = [k1, k2, k3, k4] := by intros; rfl)
    (hdb : (x == ("__debug__" : Str)) = false := by decide)
    (hpl : ∀ X, Fits I X → ((backTo pos (starEach [] X.env)).any (·.1) || (backToKw pos (keywordEach [⟨some k1, e1, q1⟩, ⟨some k2, e2, q2⟩, ⟨some k3, e3, q3⟩, ⟨some k4, e4, q4⟩] X.env)).any (·.1.isNone)) = false := by intros; rfl) :
    EvE I c (.Call (.Name x p) [] [⟨some k1, e1, q1⟩, ⟨some k2, e2, q2⟩, ⟨some k3, e3, q3⟩, ⟨some k4, e4, q4⟩] pos) ds P := fun X F σ G H s Q k => by
  obtain ⟨f, fd, ps, g, gV, hm, hk, hb, hgV, G0⟩ := hf.ok
  have G1 : FnOk X.prog X.w X.K X.mg X.base CX0 I.k f fd ps (spD I.K Pc) := by rw [F.prog, F.w, F.K, F.mg, F.base]; exact G0
  refine w_pe (pe_callK0 G1 F.room (by show X.env.scope.names.lookup x = _; rw [F.sc]; exact hg) (by rw [F.mg]; exact hm) (by rw [F.K]; exact hk) (by rw [F.K]; exact hb) pass0 (pk_cons pe_w (pk_cons pe_w (pk_cons pe_w (pk_cons pe_w pk_nil)))) (hall X F) (hks X F) hdb (hpl X F)) ?_
  refine h1 X F σ G H s _ fun v1 G1 H1 y1 x1 s1 r1 p1 => h2 X F σ G1 H1 s1 _ fun v2 G2 H2 y2 x2 s2 r2 p2 => h3 X F σ G2 H2 s2 _ fun v3 G3 H3 y3 x3 s3 r3 p3 => h4 X F σ G3 H3 s3 _ fun v4 G4 H4 y4 x4 s4 r4 p4 => ?_
  subst p1; subst p2; subst p3; subst p4
  show spD I.K Pc (gV [] [v1, v2, v3, v4]) H4 Q E0
  rw [hgV]
  refine ⟨{ deck := c.Z.deck }, G4, [.dat y4, .dat y3, .dat y2, .dat y1], R, rfl, s4.ex, s4.deck, ⟨v4, _, rfl, r4, v3, _, rfl, Rp.mono x4.g _ r3, v2, _, rfl, Rp.mono (x3.trans x4).g _ r2, v1, _, rfl, Rp.mono ((x2.trans x3).trans x4).g _ r1, rfl⟩, hc, fun v G' H' d t r q => ?_⟩
  obtain ⟨s5, gr⟩ := State.after s4 t rfl (.inr rfl)
  exact k v G' H' d ((((x1.trans x2).trans x3).trans x4).trans gr) s5 r (hp d q)
end
end Dl


set_option Elab.async false
set_option maxRecDepth 100000
set_option linter.all false
set_option maxHeartbeats 2000000
namespace Dl
open PySem PySem.Spec PyProof.Rows L2
theorem RpA.eraseIdx {K : Frag} {G : Hp} : ∀ (n : Nat) {ds : List D} {vs : List V}, RpA K G ds vs → RpA K G (ds.eraseIdx n) (vs.eraseIdx n)
  | _, [], vs, h => by
    have := h.length
    cases vs with
    | nil => simpa using h
    | cons _ _ => simp at this
  | 0, d :: ds, vs, h => by obtain ⟨v, ws, rfl, h1, h2⟩ := h.inv; simpa using h2
  | n + 1, d :: ds, vs, h => by
    obtain ⟨v, ws, rfl, h1, h2⟩ := h.inv
    rw [List.eraseIdx_cons_succ, List.eraseIdx_cons_succ]
    exact RpA.cons h1 (RpA.eraseIdx n h2)
theorem seqIndex_nat {k n : Nat} (h : k < n) : seqIndex? (k : Int) n = some k := by
  unfold seqIndex?
  have h1 : ¬ ((k : Int) < 0) := by omega
  simp only [h1, if_false]
  have h2 : (0 : Int) ≤ k := by omega
  have h3 : (k : Int) < n := by omega
  simp [h2, h3]
section
variable {I : Inf} {c : Ct} {ds : List SD} {a b e : Expr} {pos : Pos} {A : After}
/-- x, y = two fresh lists -/
theorem rs_parFF {i j : Nat} {x y : Str} {px py pt : Pos} {kt k2 pt2} {PL PB : List D → Prop} (hi : I.N[i]? = some x) (hj : I.N[j]? = some y) (hij : i ≠ j) (hx : I.sc.names.lookup x = some .local) (hy : I.sc.names.lookup y = some .local)
    (ha : EvF I c a ds PL) (hb : EvF I c b ds PB) (hn : ∀ l e, PL l → PB e → A.nx ((ds.set i (.own l)).set j (.own e)))
    (hs1 : ∀ X, Fits I X → starEach [a, b] X.env = (false, eval a X.env) :: starEach [b] X.env := by intros; rfl) (hs2 : ∀ X, Fits I X → starEach [b] X.env = (false, eval b X.env) :: starEach [] X.env := by intros; rfl)
    (hw : ∀ env : Env, env.scope = I.sc → swappedStores [.Tuple [.Name x px, .Name y py] kt pt] (.Tuple [a, b] k2 pt2) env = pure (some [x, y]) := by intro env h; cases env; dsimp only at h; subst h; rfl)
    (hs : ∀ X, Fits I X → swapsWithSole [.Tuple [.Name x px, .Name y py] kt pt] (.Tuple [a, b] k2 pt2) pos.line X.env = pure false := by intros; rfl) :
    RunS I c (.Assign [.Tuple [.Name x px, .Name y py] kt pt] (.Tuple [a, b] k2 pt2) pos) ds A := fun X F σ G H E s k => by
  refine w_ps (ps_par (i := i) (j := j) F.calm (by rw [F.N]; exact F.nd) (by rw [F.N]; exact hi) (by rw [F.N]; exact hj) hij (by rw [F.sc]; exact hx) (by rw [F.sc]; exact hy) (pa_cons pe_w (pa_cons pe_w pa_nil (hs2 X F)) (hs1 X F)) (hw X.env F.sc) (hs X F)) ?_
  refine ha X F σ G H s _ fun p xs G1 H1 l x1 s1 np hg hd hl hh r1 p1 => hb X F σ G1 H1 s1 _ fun q ys G2 H2 m x2 s2 nq hgq hdq hlq hhq r2 p2 => ?_
  have hg2 : G2 p = none := by
    cases z : G2 p with
    | none => rfl
    | some o =>
      rcases x2.nw p (by rw [z]; exact fun q => nomatch q) with q | q
      · exact absurd hg q
      · rw [hh] at q; cases q
  have hh2 : H2 p = some (.lst xs) := x2.h _ _ hh hd
  have pq : p ≠ q := by rintro rfl; rw [hh] at nq; cases nq
  have so := own_newer (i := i) s2 (s.noOwn np) (.inl (S.h0none s np)) hg2 hd hl hh2 (r1.mono x2.g)
  have no2 : NoOwn (σ.set i (some (.ref p))) (ds.set i (.own l)) q := by
    intro i' l' h1 h2
    by_cases e : i = i'
    · subst e
      have hlt : i < σ.length := by
        rcases Nat.lt_or_ge i σ.length with z | z
        · exact z
        · rw [List.getElem?_eq_none (by rw [List.length_set]; exact z)] at h2; cases h2
      rw [List.getElem?_set_self hlt] at h2
      simp at h2; exact pq h2
    · rw [List.getElem?_set_ne e] at h1 h2
      exact s1.noOwn nq i' l' h1 h2
  have so2 := own_newer (i := j) so no2 (.inl (S.h0none s1 nq)) hgq hdq hlq hhq r2
  exact ⟨.ref p, .ref q, rfl, k.nx _ G2 H2 _ (x1.g.trans x2.g) so2 (hn l m p1 p2)⟩
/-- x.append(y.pop(e)), two owned lists -/
theorem rs_popAppend {i j : Nat} {x y : Str} {l m : List D} {p p2 p3 p4 q1 q2 q3 : Pos} {r : Int → Prop} (hN : I.N[i]? = some x) (hv : Vis I.sc x) (ho : ds[i]? = some (.own l)) (hl : l.length < Lm)
    (hN2 : I.N[j]? = some y) (hv2 : Vis I.sc y) (ho2 : ds[j]? = some (.own m)) (hij : i ≠ j) (h : EvE I c e ds (IsI r)) (hr : ∀ k, r k → 0 ≤ k ∧ k < m.length)
    (hn : ∀ k d, m[k]? = some d → A.nx ((ds.set j (.own (m.eraseIdx k))).set i (.own (l ++ [d]))))
    (h1 : (x == ("__debug__" : Str)) = false := by decide) (h2 : (x == ("__classdict__" : Str)) = false := by decide) (h3 : (y == ("__debug__" : Str)) = false := by decide) (h4 : (y == ("__classdict__" : Str)) = false := by decide)
    (hsx : ∀ X, Fits I X → starEach [e] X.env = (false, eval e X.env) :: starEach [] X.env := by intros; rfl) (hline : (p2.endLine == p3.line) = true := by rfl) (hline2 : (q2.endLine == q3.line) = true := by rfl)
    (hfew2 : ∀ X, Fits I X → ((((backTo q3 (starEach [e] X.env)).all fun x => !x.fst) && (backToKw q3 (keywordEach [] X.env)).all fun x => x.fst.isSome) && decide (([e].length + ([] : List Keyword).length + if ([] : List Keyword).isEmpty = true then 0 else 1) < 30)) = true := by intros; rfl)
    (hfew : ∀ X, Fits I X → ((((backTo p3 (starEach [.Call (.Attribute (.Name y q1) ("pop" : Str) q2) [e] [] q3] X.env)).all fun x => !x.fst) && (backToKw p3 (keywordEach [] X.env)).all fun x => x.fst.isSome) && decide (([Expr.Call (.Attribute (.Name y q1) ("pop" : Str) q2) [e] [] q3].length + ([] : List Keyword).length + if ([] : List Keyword).isEmpty = true then 0 else 1) < 30)) = true := by intros; rfl) :
    RunS I c (.Expr (.Call (.Attribute (.Name x p) ("append" : Str) p2) [.Call (.Attribute (.Name y q1) ("pop" : Str) q2) [e] [] q3] [] p3) p4) ds A := fun X F σ G H E s k => by
  have inner : PE X (.Call (.Attribute (.Name y q1) ("pop" : Str) q2) [e] [] q3) _ := pe_bm PySem.F.plainAttrs_list PySem.F.slot_list_pop PySem.F.type_list_pop mt_popAt (pe_var (i := j) (by rw [F.N]; exact hN2) (by rw [F.sc]; exact hv2) h3 h4) (pa_cons (pe_w (e := e)) pa_nil (hsx X F)) (hfew := hfew2 X F) (hline := hline2) (hs := hsx X F)
  have go : PE X (.Call (.Attribute (.Name x p) ("append" : Str) p2) [.Call (.Attribute (.Name y q1) ("pop" : Str) q2) [e] [] q3] [] p3) _ := pe_bm PySem.F.plainAttrs_list PySem.F.slot_list_append PySem.F.type_list_append mt_append (pe_var (i := i) (by rw [F.N]; exact hN) (by rw [F.sc]; exact hv) h1 h2) (pa_cons inner pa_nil) (hfew := hfew X F) (hline := hline)
  refine w_ps (ps_expr go) ?_
  obtain ⟨q, xs, e1, h0, g3, g4, g5, g6, g7⟩ := own_at s ho
  obtain ⟨q', zs, e1', h0', g3', g4', g5', g6', g7'⟩ := own_at s ho2
  have qq : q ≠ q' := by
    rintro rfl
    exact s.dist i j l m q hij ho ho2 e1 e1'
  refine ⟨.ref q, e1, .inl ⟨rfl, xs, SqL.of g6⟩, .ref q', e1', .inl ⟨rfl, zs, SqL.of g6'⟩, h X F σ G H s _ fun v G1 H1 d x1 s1 r1 p1 => ?_⟩
  obtain ⟨kk, rfl, hk⟩ := p1
  rw [r1.int']
  have hb := hr kk hk
  obtain ⟨k', rfl⟩ : ∃ k' : Nat, kk = k' := ⟨kk.toNat, by omega⟩
  obtain ⟨ys, a1, a2, a3⟩ := own_same s s1 ho e1
  obtain ⟨ws, b1, b2, b3⟩ := own_same s s1 ho2 e1'
  have hk' : k' < m.length := by omega
  have hwl := b2.length
  have hm : m[k']? = some m[k'] := List.getElem?_eq_getElem hk'
  obtain ⟨u, c1, c2⟩ := b2.get hm
  have b3' : m.length ≤ 100000 := b3
  refine ⟨q', ws, (k' : Nat), k', u, rfl, rfl, b1, by omega, by omega, ?_, c1, ?_⟩
  · rw [b2.length]; exact seqIndex_nat hk'
  have s2 := own_put (l' := m.eraseIdx k') s1 ho2 e1' (RpA.eraseIdx k' b2) (by rw [List.length_eraseIdx]; split <;> omega)
  have ho' : (ds.set j (.own (m.eraseIdx k')))[i]? = some (.own l) := by rw [List.getElem?_set_ne (Ne.symm hij)]; exact ho
  refine ⟨q, ys, u, rfl, rfl, by rw [upd_ne qq]; exact a1, by rw [a2.length]; exact Lm_lt (Nat.le_of_lt hl), ?_⟩
  exact k.nx σ G1 _ _ x1.g (own_put s2 ho' e1 (a2.append (.cons c2 .nil)) (by rw [List.length_append]; exact hl)) (hn k' _ hm)
end
end Dl


set_option Elab.async false
set_option maxRecDepth 100000
set_option linter.all false
set_option maxHeartbeats 2000000
namespace Dl
open PySem PySem.Spec PyProof.Rows L2
section
variable {I : Inf} {c : Ct} {ds : List SD} {a b e : Expr} {P PA PB : D → Prop} {pos : Pos} {d : D}
/-- a part of a list, of which only something is told -/
theorem ev_slLP {lo hi : Option Expr} {p2 : Pos} {PL PH : Option Int → Prop} (ha : EvE I c a ds PA) (h1 : EvO I c lo ds PL) (h2 : EvO I c hi ds PH)
    (h : ∀ x o u, PA x → PL o → PH u → ∃ l, x = .list l ∧ P (.list (cutD l o u))) : EvE I c (.Subscript a (.Slice lo hi none p2) pos) ds P := fun X F σ G H s Q k => by
  obtain ⟨tl, pl, ql⟩ := h1 X F
  obtain ⟨th, ph, qh⟩ := h2 X F
  refine w_pe (pe_slice sl_list pe_w pl ph) ?_
  refine ha X F σ G H s _ fun x G1 H1 d x1 s1 r1 p1 => ql σ G1 H1 s1 _ fun o G2 H2 x2 s2 p2 => qh σ G2 H2 s2 _ fun u G3 H3 x3 s3 p3 => ?_
  obtain ⟨l, rfl, hp⟩ := h d o u p1 p2 p3
  obtain ⟨a', xs, rfl, hq, hl, r⟩ := (r1.mono (x2.trans x3).g).lst'
  refine ⟨a', xs, rfl, SqL.of (s3.ex _ _ hq), fun p np => ?_⟩
  obtain ⟨s4, x4⟩ := s3.laid (o := .lst (cutV xs o u)) np
  exact k _ _ _ _ (((x1.trans x2).trans x3).trans x4) s4 (.lst upd_same (Nat.le_trans (cutD_length l o u) hl) ((r.cut o u).mono x4.g)) hp
/-- a sum of lists, of which only something is told -/
theorem ev_catLP (ha : EvE I c a ds PA) (hb : EvE I c b ds PB) (h : ∀ x y, PA x → PB y → ∃ l m, x = .list l ∧ y = .list m ∧ l.length + m.length ≤ Lm ∧ P (.list (l ++ m))) : EvE I c (.BinOp a .Add b pos) ds P :=
  ev_op (r := rCat) (fun X F => op_cat) ha hb fun d e pd pe σ G H x y s rx ry Q k => by
    obtain ⟨l, m, rfl, rfl, hl, hp⟩ := h d e pd pe
    obtain ⟨a1, xs, rfl, h1, l1, r1⟩ := rx.lst'
    obtain ⟨a2, ys, rfl, h2, l2, r2⟩ := ry.lst'
    refine ⟨a1, a2, xs, ys, rfl, rfl, s.ex _ _ h1, s.ex _ _ h2, by rw [r1.length, r2.length]; exact Lm_le hl, fun p np => ?_⟩
    obtain ⟨s4, x4⟩ := s.laid (o := .lst (xs ++ ys)) np
    exact k _ _ _ _ x4 s4 (.lst upd_same (by rw [List.length_append]; exact hl) ((r1.append r2).mono x4.g)) hp
theorem wk_listP {tg : Expr} {PL : List D → Prop} (h : EvE I c e ds (fun d => ∃ l, d = .list l ∧ PL l)) : Walk I c tg e ds PL := fun X F =>
  ⟨_, pi_list pe_w, fun σ G H s R k => h X F σ G H s _ fun v G1 H1 d x1 s1 r1 p1 => by
    obtain ⟨l, rfl, hl⟩ := p1
    obtain ⟨a, xs, rfl, h1, h2, h3⟩ := r1.lst'
    refine ⟨a, rfl, ⟨xs, SqL.of (s1.ex _ _ h1)⟩, ?_⟩
    have := k (Itl I.K a) G1 H1 l x1 s1 (yields_list h1 h3) hl
    rw [F.K]; exact this⟩
/-- lists of lists of ints in a test -/
theorem shaped_walls (ws : List (List Int)) : SeqAt.shaped (.list (ws.map fun r => PyData.tuple (r.map PyData.int))) = true := by
  have h1 : ∀ ns : List Int, PyData.canLayAll0 (ns.map PyData.int) = true := by
    intro ns
    induction ns with
    | nil => simp [PyData.canLayAll0]
    | cons n ns ih => simp [PyData.canLayAll0, PyData.canLay0, ih]
  have h2 : ∀ ws : List (List Int), PyData.canLayAll0 (ws.map fun r => PyData.tuple (r.map PyData.int)) = true := by
    intro ws
    induction ws with
    | nil => simp [PyData.canLayAll0]
    | cons r ws ih => simp [PyData.canLayAll0, PyData.canLay0, ih, h1]
  have h3 : ∀ ws : List (List Int), PyData.depthAll (ws.map fun r => PyData.tuple (r.map PyData.int)) ≤ 2 := by
    intro ws
    induction ws with
    | nil => simp [PyData.depthAll]
    | cons r ws ih =>
      have := depth_ints r
      simp [PyData.depthAll, PyData.depth]; omega
  have h4 := h3 ws
  unfold SeqAt.shaped
  simp only [PyData.canLay0, h2, Bool.true_and, decide_eq_true_eq]
  simp only [PyData.depth]; omega
theorem eqv_nilD (l : List D) : PyData.eqv (.list l) (.list []) = decide (l = []) := by
  cases l with
  | nil => simp [PyData.eqv, PyData.eqvAll]
  | cons n ns => simp [PyData.eqv, PyData.eqvAll]
end
end Dl


set_option Elab.async false
set_option maxRecDepth 100000
set_option linter.all false
set_option maxHeartbeats 1000000
/-! zip of two sequences, each a list or a tuple -/
namespace Dl
open PySem PySem.Spec PyProof.Rows L2
/-- which sequence: a tuple (true) or a list -/
def sqQ (t : Bool) (h : Heap) (l : Addr) (xs : Array Value) : Prop := match t with
  | true => h.IsTuple l xs
  | false => h.IsList l xs
def itQ (t : Bool) (h : Heap) (i l : Addr) (k : Nat) : Prop := match t with
  | true => h.IsTupleIter i l k
  | false => h.IsListIter i l k
theorem sqQ.ext {t : Bool} {h h' : Heap} {a b : Addr} {xs : Array Value} (x : sqQ t h a xs) (e : Heap.ExtBut b h h') (n : a ≠ b) : sqQ t h' a xs := by
  cases t
  · exact Heap.IsList.extBut x e n
  · exact Heap.IsTuple.extBut x e n
theorem itQ.ext {t : Bool} {h h' : Heap} {a b l : Addr} {k : Nat} (x : itQ t h a l k) (e : Heap.ExtBut b h h') (n : a ≠ b) : itQ t h' a l k := by
  cases t
  · exact Heap.IsListIter.extBut x e n
  · exact Heap.IsTupleIter.extBut x e n
theorem itQ.up {t : Bool} {h h' : Heap} {a l : Addr} {k : Nat} (x : itQ t h a l k) (e : ∀ o, h.get? a = some o → h'.get? a = some o) : itQ t h' a l k := by
  cases t
  · exact Heap.IsListIter.at x e
  · exact Heap.IsTupleIter.at x e
theorem itQ.got {t : Bool} {h : Heap} {a l : Addr} {k : Nat} (x : itQ t h a l k) : ∃ o fs, h.get? a = some o ∧ o.data = .fields fs := by
  cases t
  · obtain ⟨o, e, _, d⟩ := x; exact ⟨o, _, e, d⟩
  · obtain ⟨o, e, _, d⟩ := x; exact ⟨o, _, e, d⟩
section
variable {prog : Program} {w : World} {A : Around} {E : Value → Shared → Prop} {s : Shared}
theorem nextQ_item {t : Bool} {it l : Addr} {i : Nat} {items : Array Value} {x : Value} {Q : Value → Shared → Prop} (hi : itQ t s.heap it l i) (hl : sqQ t s.heap l items) (hx : items[i]? = some x)
    (q : ∀ h', itQ t h' it l (i + 1) → Heap.SameBut it s.heap h' → Q x { s with heap := h' }) : wpAny (model prog w) A (Builtin.SmallTypes.nextOf (.ref it)) Q E s := by
  cases t
  · exact wpAny_nextOf_list_item hi hl hx q
  · exact RZ.nextOf_tuple_item hi hl hx q
theorem nextQ_end {t : Bool} {it l : Addr} {i : Nat} {items : Array Value} {Q : Value → Shared → Prop} (hh : A.handled = none) (hi : itQ t s.heap it l i) (hl : sqQ t s.heap l items) (hx : items[i]? = none)
    (q : ∀ h' e, Heap.ExtBut it s.heap h' → (∃ o, h'.get? e = some o ∧ o.cls = .type "StopIteration") → E (.ref e) { s with heap := h' }) : wpAny (model prog w) A (Builtin.SmallTypes.nextOf (.ref it)) Q E s := by
  cases t
  · exact wpAny_nextOf_list_end hh hi hl hx q
  · exact RZ.nextOf_tuple_end hh hi hl hx q

theorem zipQ_item {t1 t2 : Bool} {z TI TO i1 i2 l1 l2 : Addr} {k1 k2 : Nat} {xs ys : Array Value} {x y a b : Value} {Q : Value → Shared → Prop} (D : ZipApart z TI TO i1 i2 l1 l2)
    (uz : IsZip s.heap z TI TO .none) (uI : IsPair s.heap TI (.ref i1) (.ref i2)) (uO : IsPair s.heap TO a b)
    (u1 : itQ t1 s.heap i1 l1 k1) (u2 : itQ t2 s.heap i2 l2 k2) (v1 : sqQ t1 s.heap l1 xs) (v2 : sqQ t2 s.heap l2 ys) (hx : xs[k1]? = some x) (hy : ys[k2]? = some y)
    (q : ∀ h', IsZip h' z TI TO (rawInt s.heap.objs.size) → IsPair h' TO x y → itQ t1 h' i1 l1 (k1 + 1) → itQ t2 h' i2 l2 (k2 + 1) → IsPair h' s.heap.objs.size x y → h'.objs.size = s.heap.objs.size + 1 →
      (∀ c o, c ≠ z → c ≠ TO → c ≠ i1 → c ≠ i2 → s.heap.get? c = some o → h'.get? c = some o) → Q (.ref s.heap.objs.size) { s with heap := h' }) :
    wpAny (model prog w) A (Builtin.«zip.__next__» ⟨[.ref z], []⟩) (fun fin s' => ∃ v, fin = .done (.ret v) ∧ Q v s') E s := by
  show wpAny _ _ (field (.ref z) 2 >>= _) _ _ _; refine wpAny_bind (wpAny_field uz rfl (x := .bool false) rfl ?_)
  show wpAny _ _ (field (.ref z) 3 >>= _) _ _ _; refine wpAny_bind (wpAny_field uz rfl (x := .ref TI) rfl (wpAny_bind (wpAny_seqItems uI rfl ?_)))
  show wpAny _ _ (Builtin.SmallTypes.ownedTupleIsFree (.ref z) >>= _) _ _ _; refine wpAny_bind ?_
  unfold Builtin.SmallTypes.ownedTupleIsFree; refine wpAny_bind (wpAny_field uz rfl (x := .none) rfl (wpAny_pure ?_)); simp only [if_true]
  refine wpAny_bind (wpAny_rule (wpAny_bind (wpAny_field uz rfl (x := .ref TO) rfl (wpAny_bind (wpAny_setField_rec uz (by simp) fun g1 w1 e1 => ?_)))))
  replace w1 : IsZip g1 z TI TO .ellipsis := w1
  refine wpAny_bind ?_; simp only [List.zipIdx_cons, List.zipIdx_nil, List.forIn_cons, List.forIn_nil]
  refine wpAny_bind (wpAny_bind (wpAny_onRaise ?_)); show wpAny _ _ (Builtin.SmallTypes.nextOf (.ref i1) >>= _) _ _ _
  refine wpAny_bind (nextQ_item (u1.ext e1.extBut D.i1z) (v1.ext e1.extBut D.l1z) hx fun g2 m1 e2 => wpAny_pure ?_)
  have o2 : IsPair g2 TO a b := e2.extBut _ _ D.TOi1 (e1.extBut _ _ D.TOz uO)
  refine wpAny_bind (wpAny_seqItems o2 rfl (wpAny_bind (wpAny_updateSeq_pair o2 fun g3 o3 e3 => ?_)))
  replace o3 : IsPair g3 TO x b := o3
  refine wpAny_bind (wpAny_letGo (wpAny_pure (wpAny_bind (wpAny_bind (wpAny_onRaise ?_)))))
  show wpAny _ _ (Builtin.SmallTypes.nextOf (.ref i2) >>= _) _ _ _
  refine wpAny_bind (nextQ_item (((u2.ext e1.extBut D.i2z).ext e2.extBut D.i12.symm).ext e3.extBut D.TOi2.symm) (((v2.ext e1.extBut D.l2z).ext e2.extBut D.l2i1).ext e3.extBut D.l2TO) hy fun g4 m2 e4 => wpAny_pure ?_)
  have o4 : IsPair g4 TO x b := e4.extBut _ _ D.TOi2 o3
  refine wpAny_bind (wpAny_seqItems o4 rfl (wpAny_bind (wpAny_updateSeq_pair o4 fun g5 o5 e5 => ?_)))
  replace o5 : IsPair g5 TO x y := o5
  refine wpAny_bind (wpAny_letGo (wpAny_pure (wpAny_pure (wpAny_bind (wpAny_seqItems o5 rfl (wpAny_bind (wpAny_newTuple ?_)))))))
  have sz : g5.objs.size = s.heap.objs.size := by rw [e5.1, e4.1, e3.1, e2.1, e1.1]
  have w5 : IsZip g5 z TI TO .ellipsis := e5.extBut _ _ D.TOz.symm (e4.extBut _ _ D.i2z.symm (e3.extBut _ _ D.TOz.symm (e2.extBut _ _ D.i1z.symm w1)))
  have k5 : ∀ c o, c ≠ z → c ≠ TO → c ≠ i1 → c ≠ i2 → s.heap.get? c = some o → g5.get? c = some o := fun c o n1 n2 n3 n4 e =>
    e5.extBut _ _ n2 (e4.extBut _ _ n4 (e3.extBut _ _ n2 (e2.extBut _ _ n3 (e1.extBut _ _ n1 e))))
  have m15 := ((m1.ext e3.extBut D.TOi1.symm).ext e4.extBut D.i12).ext e5.extBut D.TOi1.symm
  have m25 := m2.ext e5.extBut D.TOi2.symm
  have zl : z < g5.objs.size := Heap.lt_size w5
  show wpAny _ _ (Builtin.SmallTypes.ownedTupleHandOut (.ref z) (.ref g5.objs.size) >>= _) _ _ _; refine wpAny_bind ?_
  unfold Builtin.SmallTypes.ownedTupleHandOut
  have w6 : IsZip (g5.push { cls := .type "tuple", data := .seq #[x, y] }) z TI TO .ellipsis := Heap.get?_push_of_some _ w5
  refine wpAny_bind (wpAny_setField_rec w6 (by simp) fun g7 w7 e7 => ?_)
  replace w7 : IsZip g7 z TI TO (rawInt g5.objs.size) := w7
  refine wpAny_setField_rec w7 (by simp) fun g8 w8 e8 => ?_
  replace w8 : IsZip g8 z TI TO (rawInt g5.objs.size) := w8
  have up : ∀ c o, c ≠ z → g5.get? c = some o → g8.get? c = some o := fun c o n1 e => e8.extBut _ _ n1 (e7.extBut _ _ n1 (Heap.get?_push_of_some _ e))
  have p8 : IsPair g8 g5.objs.size x y := e8.extBut _ _ (Nat.ne_of_gt zl) (e7.extBut _ _ (Nat.ne_of_gt zl) (Heap.get?_push_size _ rfl))
  have s8 : g8.objs.size = g5.objs.size + 1 := by rw [e8.1, e7.1, Heap.size_push]
  rw [sz] at w8 p8 s8
  refine wpAny_pure ⟨_, rfl, ?_⟩; show Q (.ref g5.objs.size) _; rw [sz]
  exact q g8 w8 (up _ _ D.TOz o5) (m15.up fun o e => up _ o D.i1z e) (m25.up fun o e => up _ o D.i2z e) p8 s8 fun c o n1 n2 n3 n4 e => up c o n1 (k5 c o n1 n2 n3 n4 e)

theorem zipQ_end {t1 t2 : Bool} {z TI TO i1 i2 l1 l2 : Addr} {k1 k2 : Nat} {xs ys : Array Value} {a b : Value} {Q : Fin → Shared → Prop} (hh : A.handled = none) (D : ZipApart z TI TO i1 i2 l1 l2)
    (uz : IsZip s.heap z TI TO .none) (uI : IsPair s.heap TI (.ref i1) (.ref i2)) (uO : IsPair s.heap TO a b)
    (u1 : itQ t1 s.heap i1 l1 k1) (u2 : itQ t2 s.heap i2 l2 k2) (v1 : sqQ t1 s.heap l1 xs) (v2 : sqQ t2 s.heap l2 ys) (hend : xs[k1]? = none ∨ ys[k2]? = none)
    (q : ∀ h' e, (∀ c o, c ≠ z → c ≠ TO → c ≠ i1 → c ≠ i2 → s.heap.get? c = some o → h'.get? c = some o) → (∃ o, h'.get? e = some o ∧ o.cls = .type "StopIteration") → E (.ref e) { s with heap := h' }) :
    wpAny (model prog w) A (Builtin.«zip.__next__» ⟨[.ref z], []⟩) Q E s := by
  show wpAny _ _ (field (.ref z) 2 >>= _) _ _ _; refine wpAny_bind (wpAny_field uz rfl (x := .bool false) rfl ?_)
  show wpAny _ _ (field (.ref z) 3 >>= _) _ _ _; refine wpAny_bind (wpAny_field uz rfl (x := .ref TI) rfl (wpAny_bind (wpAny_seqItems uI rfl ?_)))
  show wpAny _ _ (Builtin.SmallTypes.ownedTupleIsFree (.ref z) >>= _) _ _ _; refine wpAny_bind ?_
  unfold Builtin.SmallTypes.ownedTupleIsFree; refine wpAny_bind (wpAny_field uz rfl (x := .none) rfl (wpAny_pure ?_)); simp only [if_true]
  refine wpAny_bind (wpAny_rule (wpAny_bind (wpAny_field uz rfl (x := .ref TO) rfl (wpAny_bind (wpAny_setField_rec uz (by simp) fun g1 w1 e1 => ?_)))))
  replace w1 : IsZip g1 z TI TO .ellipsis := w1
  refine wpAny_bind ?_; simp only [List.zipIdx_cons, List.zipIdx_nil, List.forIn_cons, List.forIn_nil]
  refine wpAny_bind (wpAny_bind (wpAny_onRaise ?_)); show wpAny _ _ (Builtin.SmallTypes.nextOf (.ref i1) >>= _) _ _ _
  cases hx : xs[k1]? with
  | none =>
    refine wpAny_bind (nextQ_end hh (u1.ext e1.extBut D.i1z) (v1.ext e1.extBut D.l1z) hx fun g2 e e2 ⟨oe, r1, r2⟩ => ?_)
    have w2 : IsZip g2 z TI TO .ellipsis := e2 _ _ D.i1z.symm w1
    have ez : e ≠ z := fun x => by rw [x, w2] at r1; cases r1; simp at r2
    refine wpAny_setField_rec w2 (by simp) fun g3 _ e3 => q g3 e (fun c o n1 _ n3 _ x => e3.extBut _ _ n1 (e2 _ _ n3 (e1.extBut _ _ n1 x))) ⟨oe, e3.extBut _ _ ez r1, r2⟩
  | some x =>
    have hy : ys[k2]? = none := by
      rcases hend with h | h
      · rw [hx] at h; cases h
      · exact h
    refine wpAny_bind (nextQ_item (u1.ext e1.extBut D.i1z) (v1.ext e1.extBut D.l1z) hx fun g2 m1 e2 => wpAny_pure ?_)
    have o2 : IsPair g2 TO a b := e2.extBut _ _ D.TOi1 (e1.extBut _ _ D.TOz uO)
    refine wpAny_bind (wpAny_seqItems o2 rfl (wpAny_bind (wpAny_updateSeq_pair o2 fun g3 o3 e3 => ?_)))
    refine wpAny_bind (wpAny_letGo (wpAny_pure (wpAny_bind (wpAny_bind (wpAny_onRaise ?_)))))
    show wpAny _ _ (Builtin.SmallTypes.nextOf (.ref i2) >>= _) _ _ _
    refine wpAny_bind (nextQ_end hh (((u2.ext e1.extBut D.i2z).ext e2.extBut D.i12.symm).ext e3.extBut D.TOi2.symm) (((v2.ext e1.extBut D.l2z).ext e2.extBut D.l2i1).ext e3.extBut D.l2TO) hy fun g4 e e4 ⟨oe, r1, r2⟩ => ?_)
    have w4 : IsZip g4 z TI TO .ellipsis := e4 _ _ D.i2z.symm (e3.extBut _ _ D.TOz.symm (e2.extBut _ _ D.i1z.symm w1))
    have ez : e ≠ z := fun x => by rw [x, w4] at r1; cases r1; simp at r2
    refine wpAny_setField_rec w4 (by simp) fun g5 _ e5 => q g5 e (fun c o n1 n2 n3 n4 x => e5.extBut _ _ n1 (e4 _ _ n4 (e3.extBut _ _ n2 (e2.extBut _ _ n3 (e1.extBut _ _ n1 x))))) ⟨oe, e5.extBut _ _ ez r1, r2⟩
end
/-! a zip made -/
abbrev zq1 (n1 : String) (h : Heap) (l1 : Addr) : Heap := h.push { cls := .type n1, data := .fields #[.ref l1, .int 0 0] }
abbrev zq2 (n1 n2 : String) (h : Heap) (l1 l2 : Addr) : Heap := (zq1 n1 h l1).push { cls := .type n2, data := .fields #[.ref l2, .int 0 0] }
abbrev zq3 (n1 n2 : String) (h : Heap) (l1 l2 : Addr) : Heap := (zq2 n1 n2 h l1 l2).push { cls := .type "tuple", data := .seq #[.ref h.objs.size, .ref (zq1 n1 h l1).objs.size] }
abbrev zq4 (n1 n2 : String) (h : Heap) (l1 l2 : Addr) : Heap := (zq3 n1 n2 h l1 l2).push { cls := .type "tuple", data := .seq #[.none, .none] }
abbrev zq5 (n1 n2 : String) (h : Heap) (l1 l2 : Addr) : Heap := (zq4 n1 n2 h l1 l2).push { cls := .type "zip", data := .fields #[.none, .bool false, .bool false, .ref (zq2 n1 n2 h l1 l2).objs.size, .ref (zq3 n1 n2 h l1 l2).objs.size] }
theorem newTL (l1 l2 : Addr) (xs ys : Array Value) : Meets (Builtin.«zip.__new__» ⟨[.type "zip", .ref l1, .ref l2], []⟩) (fun _ R s => s.heap.IsTuple l1 xs ∧ s.heap.IsList l2 ys ∧
      R (.ok (.ret (.ref (zq4 "tuple_iterator" "list_iterator" s.heap l1 l2).objs.size))) { s with heap := zq5 "tuple_iterator" "list_iterator" s.heap l1 l2 }) :=
  .of_wp fun prog w A R s h => by
    obtain ⟨hp, g, d, tk, os⟩ := s; obtain ⟨v1, v2, h⟩ := h
    have hsub := sub_zip
    have a1 : Heap.IsTuple (Shared.heap ⟨hp, g, d, tk, os⟩) l1 xs := v1
    have a2 : Heap.IsList (Shared.heap ⟨hp.push { cls := .type "tuple_iterator", data := .fields #[.ref l1, .int 0 0] }, g, d, tk, os⟩) l2 ys := Heap.IsList.push v2 _
    wp_walk using wpAny_pyIter_tuple a1, wpAny_pyIter_list a2
    exact ⟨_, rfl, h⟩
theorem newLT (l1 l2 : Addr) (xs ys : Array Value) : Meets (Builtin.«zip.__new__» ⟨[.type "zip", .ref l1, .ref l2], []⟩) (fun _ R s => s.heap.IsList l1 xs ∧ s.heap.IsTuple l2 ys ∧
      R (.ok (.ret (.ref (zq4 "list_iterator" "tuple_iterator" s.heap l1 l2).objs.size))) { s with heap := zq5 "list_iterator" "tuple_iterator" s.heap l1 l2 }) :=
  .of_wp fun prog w A R s h => by
    obtain ⟨hp, g, d, tk, os⟩ := s; obtain ⟨v1, v2, h⟩ := h
    have hsub := sub_zip
    have a1 : Heap.IsList (Shared.heap ⟨hp, g, d, tk, os⟩) l1 xs := v1
    have a2 : Heap.IsTuple (Shared.heap ⟨hp.push { cls := .type "list_iterator", data := .fields #[.ref l1, .int 0 0] }, g, d, tk, os⟩) l2 ys := Heap.IsTuple.push v2 _
    wp_walk using wpAny_pyIter_list a1, wpAny_pyIter_tuple a2
    exact ⟨_, rfl, h⟩
def nmQ : Bool → String
  | true => "tuple_iterator"
  | false => "list_iterator"
section
variable {prog : Program} {w : World} {A : Around} {E : Value → Shared → Prop} {s : Shared}
theorem fresh_it {t : Bool} {h : Heap} {a l : Addr} (e : h.get? a = some { cls := .type (nmQ t), data := .fields #[.ref l, .int 0 0] }) : itQ t h a l 0 := by
  cases t
  · exact ⟨_, e, rfl, rfl⟩
  · exact ⟨_, e, rfl, rfl⟩
/-- zip(x, y) of a tuple and a list, or of a list and a tuple -/
theorem zipQ_call {t : Bool} {l1 l2 : Addr} {xs ys : Array Value} {Q : Value → Shared → Prop} (v1 : sqQ t s.heap l1 xs) (v2 : sqQ (!t) s.heap l2 ys)
    (q : ∀ h', IsZip h' (s.heap.objs.size + 4) (s.heap.objs.size + 2) (s.heap.objs.size + 3) .none → IsPair h' (s.heap.objs.size + 2) (.ref s.heap.objs.size) (.ref (s.heap.objs.size + 1)) →
      IsPair h' (s.heap.objs.size + 3) .none .none → itQ t h' s.heap.objs.size l1 0 → itQ (!t) h' (s.heap.objs.size + 1) l2 0 → (∀ c o, s.heap.get? c = some o → h'.get? c = some o) → Q (.ref (s.heap.objs.size + 4)) { s with heap := h' }) :
    wpAny (model prog w) A (call (.type "zip") [.ref l1, .ref l2]) Q E s := by
  have key : ∀ n1 n2 : String, (n1 = nmQ t) → (n2 = nmQ (!t)) → ∃ v : Value, v = .ref (zq4 n1 n2 s.heap l1 l2).objs.size ∧ Q v { s with heap := zq5 n1 n2 s.heap l1 l2 } := by
    rintro n1 n2 rfl rfl
    refine ⟨_, rfl, ?_⟩
    have z1 : (zq1 (nmQ t) s.heap l1).objs.size = s.heap.objs.size + 1 := Heap.size_push ..
    have z2 : (zq2 (nmQ t) (nmQ (!t)) s.heap l1 l2).objs.size = s.heap.objs.size + 2 := by rw [Heap.size_push, z1]
    have z3 : (zq3 (nmQ t) (nmQ (!t)) s.heap l1 l2).objs.size = s.heap.objs.size + 3 := by rw [Heap.size_push, z2]
    have z4 : (zq4 (nmQ t) (nmQ (!t)) s.heap l1 l2).objs.size = s.heap.objs.size + 4 := by rw [Heap.size_push, z3]
    have g5 : (zq5 (nmQ t) (nmQ (!t)) s.heap l1 l2).get? (zq4 (nmQ t) (nmQ (!t)) s.heap l1 l2).objs.size = some _ := Heap.get?_push_size _ rfl
    have g4 : (zq5 (nmQ t) (nmQ (!t)) s.heap l1 l2).get? (zq3 (nmQ t) (nmQ (!t)) s.heap l1 l2).objs.size = some _ := Heap.get?_push_of_some _ (Heap.get?_push_size _ rfl)
    have g3 : (zq5 (nmQ t) (nmQ (!t)) s.heap l1 l2).get? (zq2 (nmQ t) (nmQ (!t)) s.heap l1 l2).objs.size = some _ := Heap.get?_push_of_some _ (Heap.get?_push_of_some _ (Heap.get?_push_size _ rfl))
    have g2 : (zq5 (nmQ t) (nmQ (!t)) s.heap l1 l2).get? (zq1 (nmQ t) s.heap l1).objs.size = some _ := Heap.get?_push_of_some _ (Heap.get?_push_of_some _ (Heap.get?_push_of_some _ (Heap.get?_push_size _ rfl)))
    have g1 : (zq5 (nmQ t) (nmQ (!t)) s.heap l1 l2).get? s.heap.objs.size = some _ := Heap.get?_push_of_some _ (Heap.get?_push_of_some _ (Heap.get?_push_of_some _ (Heap.get?_push_of_some _ (Heap.get?_push_size _ rfl))))
    rw [z2, z3, z4] at g5
    rw [z1, z2] at g3
    rw [z3] at g4
    rw [z1] at g2
    rw [z4]
    exact q _ g5 g3 g4 (fresh_it g1) (fresh_it g2) fun c o x => Heap.get?_push_of_some _ (Heap.get?_push_of_some _ (Heap.get?_push_of_some _ (Heap.get?_push_of_some _ (Heap.get?_push_of_some _ x))))
  cases t
  · obtain ⟨_, rfl, k⟩ := key "list_iterator" "tuple_iterator" rfl rfl
    exact callType_new F.called_zip (by decide) (F.typeCall_zip_2 _ _) (F.newCall_zip_2 _ _) (fun obj => F.args_object_init_3 obj _ _) F.entry_zip_new (newLT l1 l2 xs ys) ⟨v1, v2, ⟨_, Heap.get?_push_size _ rfl, rfl⟩, k⟩
  · obtain ⟨_, rfl, k⟩ := key "tuple_iterator" "list_iterator" rfl rfl
    exact callType_new F.called_zip (by decide) (F.typeCall_zip_2 _ _) (F.newCall_zip_2 _ _) (fun obj => F.args_object_init_3 obj _ _) F.entry_zip_new (newTL l1 l2 xs ys) ⟨v1, v2, ⟨_, Heap.get?_push_size _ rfl, rfl⟩, k⟩
theorem pyNextQ_item {t1 t2 : Bool} {z TI TO i1 i2 l1 l2 : Addr} {k1 k2 : Nat} {xs ys : Array Value} {x y a b : Value} {Q : Option Value → Shared → Prop} (D : ZipApart z TI TO i1 i2 l1 l2)
    (uz : IsZip s.heap z TI TO .none) (uI : IsPair s.heap TI (.ref i1) (.ref i2)) (uO : IsPair s.heap TO a b)
    (u1 : itQ t1 s.heap i1 l1 k1) (u2 : itQ t2 s.heap i2 l2 k2) (v1 : sqQ t1 s.heap l1 xs) (v2 : sqQ t2 s.heap l2 ys) (hx : xs[k1]? = some x) (hy : ys[k2]? = some y)
    (q : ∀ h', IsZip h' z TI TO (rawInt s.heap.objs.size) → IsPair h' TO x y → itQ t1 h' i1 l1 (k1 + 1) → itQ t2 h' i2 l2 (k2 + 1) → IsPair h' s.heap.objs.size x y → h'.objs.size = s.heap.objs.size + 1 →
      (∀ c o, c ≠ z → c ≠ TO → c ≠ i1 → c ≠ i2 → s.heap.get? c = some o → h'.get? c = some o) → Q (some (.ref s.heap.objs.size)) { s with heap := h' }) : wpAny (model prog w) A (pyNext (.ref z)) Q E s := by
  have ty : s.TypeIs (.ref z) "zip" := ⟨_, uz, rfl⟩
  unfold pyNext
  refine wpAny_bind (wpAny_attempt (wpAny_callSpecial?_slot (name := Str.ofString "__next__") ty F.slot_zip_next (wpAny_call_entry F.slot_zip_next ty F.entry_zip_next ?_ (F.args_zip_next_1 _))))
  exact zipQ_item D uz uI uO u1 u2 v1 v2 hx hy fun h' b1 b2 b3 b4 b5 b6 b7 => wpAny_pure (q h' b1 b2 b3 b4 b5 b6 b7)
theorem pyNextQ_end {t1 t2 : Bool} {z TI TO i1 i2 l1 l2 : Addr} {k1 k2 : Nat} {xs ys : Array Value} {a b : Value} {Q : Option Value → Shared → Prop} (hh : A.handled = none) (D : ZipApart z TI TO i1 i2 l1 l2)
    (uz : IsZip s.heap z TI TO .none) (uI : IsPair s.heap TI (.ref i1) (.ref i2)) (uO : IsPair s.heap TO a b)
    (u1 : itQ t1 s.heap i1 l1 k1) (u2 : itQ t2 s.heap i2 l2 k2) (v1 : sqQ t1 s.heap l1 xs) (v2 : sqQ t2 s.heap l2 ys) (hend : xs[k1]? = none ∨ ys[k2]? = none)
    (q : ∀ h', (∀ c o, c ≠ z → c ≠ TO → c ≠ i1 → c ≠ i2 → s.heap.get? c = some o → h'.get? c = some o) → Q none { s with heap := h' }) : wpAny (model prog w) A (pyNext (.ref z)) Q E s := by
  have ty : s.TypeIs (.ref z) "zip" := ⟨_, uz, rfl⟩
  unfold pyNext
  refine wpAny_bind (wpAny_attempt (wpAny_callSpecial?_slot (name := Str.ofString "__next__") ty F.slot_zip_next (wpAny_call_entry F.slot_zip_next ty F.entry_zip_next ?_ (F.args_zip_next_1 _))))
  refine zipQ_end hh D uz uI uO u1 u2 v1 v2 hend fun h' e hk ⟨o, r1, r2⟩ => ?_
  exact wpAny_bind (wpAny_isInstance (T := "StopIteration") (b := true) ⟨o, r1, r2⟩ isSubtype_stop (wpAny_pure (q _ hk)))
end
/-- the sequence at a -/
def SqQ (t : Bool) (K : Frag) (H : Hp) (a : Addr) (xs : List V) : Prop := match t with
  | true => SqT K H a xs
  | false => SqL K H a xs
def ItzQ (t1 t2 : Bool) (K : Frag) (a b : Addr) : It :=
  ⟨fun i H => ∃ (xs ys : List V) (x y : V), SqQ t1 K H a xs ∧ SqQ t2 K H b ys ∧ xs[i]? = some x ∧ ys[i]? = some y,
    fun i H v H' => ∃ T x y, v = .ref T ∧ H T = none ∧ H' = upd H T (.tup [x, y]) ∧ (∀ xs, SqQ t1 K H a xs → xs[i]? = some x) ∧ ∀ ys, SqQ t2 K H b ys → ys[i]? = some y,
    fun i H => ∃ xs ys : List V, SqQ t1 K H a xs ∧ SqQ t2 K H b ys ∧ (xs.length ≤ i ∨ ys.length ≤ i)⟩
theorem seqQ {t : Bool} {X : Cx} {pins : List (Addr × Obj)} {s : Shared} {σ : L2.St} {H : Hp} {a : Addr} {xs : List V} (I : Inv X pins σ H s) (h : SqQ t X.K H a xs) : ∃ its : List Value, Vals xs its ∧ sqQ t s.heap a its.toArray := by
  cases t
  · obtain ⟨its, r, p, _⟩ := I.list h; exact ⟨its, r, p.isList⟩
  · obtain ⟨its, r, p, _⟩ := I.tuple h; exact ⟨its, r, p⟩
theorem injQ {t : Bool} {X : Cx} {pins : List (Addr × Obj)} {s : Shared} {σ : L2.St} {H : Hp} {a : Addr} {xs ys : List V} (I : Inv X pins σ H s) (h : SqQ t X.K H a xs) (h' : SqQ t X.K H a ys) : xs = ys := by
  cases t
  · exact I.list_inj h h'
  · exact I.tuple_inj h h'
end Dl


set_option Elab.async false
set_option maxRecDepth 100000
set_option linter.all false
set_option maxHeartbeats 1000000
namespace Dl
open PySem PySem.Spec PyProof.Rows L2
theorem turnQ {t1 t2 : Bool} {P : Program} {w : World} {K : Frag} {elts : List Expr} {kk : Nat} {tpos : Pos} {a b z TI TO i1 i2 : Addr} (D : ZipApart z TI TO i1 i2 a b) :
    Turn P w K (.Tuple elts kk tpos) (ItzQ t1 t2 K a b) [z, TI, TO, i1, i2] z (fun i h => IsZip h z TI TO .none ∧ IsPair h TI (.ref i1) (.ref i2) ∧ (∃ x y, IsPair h TO x y) ∧ itQ t1 h i1 a i ∧ itQ t2 h i2 b i) where
  mem := by simp
  obj := fun i h st c hc => by
    obtain ⟨uz, uI, ⟨x, y, uO⟩, m1, m2⟩ := st
    obtain ⟨o1, f1, e1, d1⟩ := m1.got
    obtain ⟨o2, f2, e2, d2⟩ := m2.got
    have sp : c = z ∨ c = TI ∨ c = TO ∨ c = i1 ∨ c = i2 := by simpa using hc
    rcases sp with q | q | q | q | q <;> rw [q]
    · exact ⟨_, uz, fun v q => nomatch q⟩
    · exact ⟨_, uI, fun v q => nomatch q⟩
    · exact ⟨_, uO, fun v q => nomatch q⟩
    · exact ⟨o1, e1, fun v q => by rw [d1] at q; cases q⟩
    · exact ⟨o2, e2, fun v q => by rw [d2] at q; cases q⟩
  keep := fun i h h' st k => by
    obtain ⟨uz, uI, ⟨x, y, uO⟩, m1, m2⟩ := st
    exact ⟨k z (by simp) _ uz, k TI (by simp) _ uI, ⟨x, y, k TO (by simp) _ uO⟩, m1.up fun o q => k i1 (by simp) o q, m2.up fun o q => k i2 (by simp) o q⟩
  item := by
    intro X hP hw hK hc i pins s σ H E I hf st hg
    subst hP hw hK
    obtain ⟨uz, uI, ⟨x0, y0, uO⟩, m1, m2⟩ := st
    obtain ⟨xs, ys, x, y, qx, qy, hx, hy⟩ := hg
    obtain ⟨its, rv, p⟩ := seqQ I qx
    obtain ⟨its2, rv2, p2⟩ := seqQ I qy
    obtain ⟨u, hu, ru⟩ := rv.get hx
    obtain ⟨u2, hu2, ru2⟩ := rv2.get hy
    have zl : z < s.heap.objs.size := Heap.lt_size uz
    refine pyNextQ_item D uz uI uO m1 m2 p p2 (x := u) (y := u2) (by simpa using hu) (by simpa using hu2) fun h' z' O' n1 n2 hT hsz hk => ?_
    refine ⟨_, rfl, wpAny_letOwnedTupleGo_zip (s := { s with heap := h' }) z' fun h2 z2 sb => ?_⟩
    have T2 : h2.get? s.heap.objs.size = some { cls := .type "tuple", data := .seq #[u, u2] } := (sb.2 _ (Nat.ne_of_gt zl)).trans hT
    have nw : ObjOk X.prog X.w (upd H s.heap.objs.size (.tup [x, y])) h2 s.heap.objs.size (.tup [x, y]) := ⟨by show 2 ≤ sizeLine; decide, [u, u2], .cons ru (.cons ru2 .nil), ⟨_, T2, rfl, _, rfl⟩⟩
    have all5 : ∀ c, c ∉ [z, TI, TO, i1, i2] → c ≠ z ∧ c ≠ TI ∧ c ≠ TO ∧ c ≠ i1 ∧ c ≠ i2 := fun c h => by simpa using h
    have I1 : Inv X pins σ (upd H s.heap.objs.size (.tup [x, y])) { s with heap := h2 } :=
      I.turnedNew (t' := s.toks) (ch := [z, TI, TO, i1, i2]) (fun c o hb q => by
        obtain ⟨a1, a2, a3, a4, a5⟩ := all5 c hb
        exact (sb.2 c a1).trans (hk c o a1 a3 a4 a5 q)) hf (Nat.le_refl _) nw
    refine ⟨.ref s.heap.objs.size, _, I1, rfl, ⟨_, x, y, rfl, I.hok.fresh (Nat.le_refl _), rfl, fun l hl => by rw [injQ I hl qx]; exact hx, fun l hl => by rw [injQ I hl qy]; exact hy⟩, ⟨z2, (sb.2 _ D.TIz).trans (hk _ _ D.TIz D.TITO D.TIi1 D.TIi2 uI), ⟨u, u2, (sb.2 _ D.TOz).trans O'⟩, n1.up fun o q => (sb.2 _ D.i1z).trans q, n2.up fun o q => (sb.2 _ D.i2z).trans q⟩, fun c hcm => ?_⟩
    obtain ⟨o1, f1, e1, _⟩ := m1.got
    obtain ⟨o2, f2, e2, _⟩ := m2.got
    have lt : c < s.heap.objs.size := by
      have sp : c = z ∨ c = TI ∨ c = TO ∨ c = i1 ∨ c = i2 := by simpa using hcm
      rcases sp with q | q | q | q | q <;> rw [q]
      · exact zl
      · exact Heap.lt_size uI
      · exact Heap.lt_size uO
      · exact Heap.lt_size e1
      · exact Heap.lt_size e2
    rw [upd_ne (Nat.ne_of_lt lt)]
    exact (hf c hcm).1
  done := by
    intro X hP hw hK hc i pins s σ H E I hf st hg
    subst hP hw hK
    obtain ⟨uz, uI, ⟨x0, y0, uO⟩, m1, m2⟩ := st
    obtain ⟨xs, ys, qx, qy, hend⟩ := hg
    obtain ⟨its, rv, p⟩ := seqQ I qx
    obtain ⟨its2, rv2, p2⟩ := seqQ I qy
    have l1 := rv.length
    have l2 := rv2.length
    have he : its.toArray[i]? = none ∨ its2.toArray[i]? = none := hend.elim (fun q => .inl (by simp; omega)) (fun q => .inr (by simp; omega))
    have all5 : ∀ c, c ∉ [z, TI, TO, i1, i2] → c ≠ z ∧ c ≠ TI ∧ c ≠ TO ∧ c ≠ i1 ∧ c ≠ i2 := fun c h => by simpa using h
    exact pyNextQ_end (I.ok.hd hc) D uz uI uO m1 m2 p p2 he fun h' hk => ⟨rfl, I.turnedL (t' := s.toks) (ch := [z, TI, TO, i1, i2]) (fun c o hb q => by
      obtain ⟨a1, a2, a3, a4, a5⟩ := all5 c hb
      exact hk c o a1 a3 a4 a5 q) hf⟩
  self := fun A i s Q E st h => wpAny_pyIter_zip st.1 h

def iZipQ (t : Bool) (K : Frag) (ta : TA) : TI := fun σ H R => ta σ H fun vs H1 => ∃ a b xs ys, vs = [.ref a, .ref b] ∧ SqQ t K H1 a xs ∧ SqQ (!t) K H1 b ys ∧ R (ItzQ t (!t) K a b) H1
theorem sqQ.lt {t : Bool} {h : Heap} {l : Addr} {xs : Array Value} (x : sqQ t h l xs) : l < h.objs.size := by
  cases t
  · obtain ⟨o, e, _⟩ := x; exact Heap.lt_size e
  · obtain ⟨o, e, _⟩ := x; exact Heap.lt_size e
theorem pi_zipQ {t : Bool} {X : Cx} {e e2 : Expr} {ta : TA} {p pos tpos : Pos} {elts : List Expr} {kk : Nat} (hg : Gl X "zip") (hm : X.mg "zip" = none) (ha : PA X [e, e2] ta)
    (hs : starEach [e, e2] X.env = (false, eval e X.env) :: starEach [e2] X.env := by rfl) (hpl : (backTo pos (starEach [e2] X.env)).any (·.1) = false := by rfl) :
    PI X (.Tuple elts kk tpos) (.Call (.Name "zip" p) [e, e2] [] pos) (iZipQ t X.K ta) := by
  refine ⟨fun pins s σ H R I h => Call_ (ld_blt I hg hm PyProof.Rows.boot_zip (PyProof.Rows.callWith_type1 (thn (ha.run pos pins s σ H _ I h) fun us s1 ⟨vs, H1, I1, r1, a, b, xs, ys, ex, qx, qy, q⟩ => ?_) hs hpl))⟩
  subst ex
  obtain ⟨u, us', rfl, ru, rr⟩ : ∃ u us', us = u :: us' ∧ RelV (.ref a) u ∧ Vals [.ref b] us' := by cases r1 with | cons r rr => exact ⟨_, _, rfl, r, rr⟩
  obtain ⟨u2, rfl, ru2⟩ := vals1 rr
  cases ru
  cases ru2
  have f5 : ∀ c, c ∈ [s1.heap.objs.size + 4, s1.heap.objs.size + 2, s1.heap.objs.size + 3, s1.heap.objs.size, s1.heap.objs.size + 1] → FpOk X pins H1 c := fun c hcm => by
    have sp : c = s1.heap.objs.size + 4 ∨ c = s1.heap.objs.size + 2 ∨ c = s1.heap.objs.size + 3 ∨ c = s1.heap.objs.size ∨ c = s1.heap.objs.size + 1 := by simpa using hcm
    have le : s1.heap.objs.size ≤ c := by rcases sp with z | z | z | z | z <;> rw [z] <;> first | exact Nat.le_add_right _ _ | exact Nat.le_refl _
    exact I1.fpOk le (I1.hok.fresh le)
  obtain ⟨its, rv, p1⟩ := seqQ I1 qx
  obtain ⟨its2, rv2, p2⟩ := seqQ I1 qy
  refine zipQ_call p1 p2 fun h' hz hTI hTO m1 m2 hk => wpAny_pyIter_zip hz ?_
  exact ⟨s1.heap.objs.size + 4, [s1.heap.objs.size + 4, s1.heap.objs.size + 2, s1.heap.objs.size + 3, s1.heap.objs.size, s1.heap.objs.size + 1], _, _, H1, rfl, I1.kept (t' := s1.toks) hk, turnQ (PySem.W.ktu_apart s1.heap.objs.size a b p1.lt p2.lt), ⟨hz, hTI, ⟨_, _, hTO⟩, m1, m2⟩, f5, q⟩

/-! as a walk over data -/
def KnQ (t : Bool) (K : Frag) (G : Hp) (a : Addr) (xs : List V) : Prop := match t with
  | true => SqT K G a xs
  | false => G a = some (.lst xs)
theorem KnQ.up {t : Bool} {K : Frag} {G H : Hp} {a : Addr} {xs : List V} (e : Ex G H) (h : KnQ t K G a xs) : SqQ t K H a xs := by
  cases t
  · exact SqL.of (e _ _ h)
  · exact ex_t e h
theorem KnQ.mono {t : Bool} {K : Frag} {G H : Hp} {a : Addr} {xs : List V} (e : Ex G H) (h : KnQ t K G a xs) : KnQ t K H a xs := by
  cases t
  · exact e _ _ h
  · exact ex_t e h
theorem yieldsQ {t1 t2 : Bool} {K : Frag} {a b : Addr} {xs ys : List V} {l m : List D} {G : Hp} (h : KnQ t1 K G a xs) (r : RpA K G l xs) (h' : KnQ t2 K G b ys) (r' : RpA K G m ys) : Yields K (ItzQ t1 t2 K a b) G (zipL l m) := fun Z G0 H0 σ ds G1 H x s => by
  have hq : SqQ t1 K H a xs := (h.mono x).up s.ex
  have hq' : SqQ t2 K H b ys := (h'.mono x).up s.ex
  refine ⟨fun i d hi => ?_, ⟨xs, ys, hq, hq', ?_⟩⟩
  · obtain ⟨d1, d2, g1, g2, rfl⟩ := zipL_get hi
    obtain ⟨v, h1, h2⟩ := r.get g1
    obtain ⟨w, h3, h4⟩ := r'.get g2
    exact ⟨⟨xs, ys, v, w, hq, hq', h1, h3⟩, fun y H' ⟨T, w1, w2, e1, hT, e2, q, q'⟩ => by
      subst e1; subst e2
      have t1 := q xs hq
      have t2 := q' ys hq'
      rw [h1] at t1; cases t1
      rw [h3] at t2; cases t2
      exact State.tupled s hT (h2.mono x) (h4.mono x)⟩
  · rw [r.length, r'.length]; unfold zipL; rw [List.length_map, List.length_zip]; omega
def seqD (t : Bool) (l : List D) : D := match t with
  | true => .tuple l
  | false => .list l
theorem seqD_kn {t : Bool} {K : Frag} {G : Hp} {l : List D} {v : V} (h : Rp K G (seqD t l) v) : ∃ a xs, v = .ref a ∧ KnQ t K G a xs ∧ RpA K G l xs := by
  cases t
  · obtain ⟨a, xs, rfl, h1, _, h3⟩ := h.lst'; exact ⟨a, xs, rfl, h1, h3⟩
  · obtain ⟨a, xs, rfl, h1, _, h3⟩ := h.tup'; exact ⟨a, xs, rfl, h1, h3⟩
section
variable {I : Inf} {c : Ct} {ds : List SD} {e : Expr} {pos : Pos}
/-- zip of a tuple and a list (t), or of a list and a tuple -/
theorem wk_zipQ {elts : List Expr} {e2 : Expr} {kk : Nat} {tpos p : Pos} {l m : List D} (t : Bool) (hg : I.sc.names.lookup ("zip" : Str) = some .globalImplicit) (hm : I.mg "zip" = none) (h : EvE I c e ds (· = seqD t l)) (h' : EvE I c e2 ds (· = seqD (!t) m))
    (hs : ∀ X, Fits I X → starEach [e, e2] X.env = (false, eval e X.env) :: starEach [e2] X.env := by intros; rfl) (hs2 : ∀ X, Fits I X → starEach [e2] X.env = (false, eval e2 X.env) :: starEach [] X.env := by intros; rfl) (hpl : ∀ X, Fits I X → (backTo pos (starEach [e2] X.env)).any (·.1) = false := by intros; rfl) :
    Walk I c (.Tuple elts kk tpos) (.Call (.Name "zip" p) [e, e2] [] pos) ds (· = zipL l m) := fun X F =>
  ⟨_, pi_zipQ (t := t) (by show X.env.scope.names.lookup _ = _; rw [F.sc]; exact hg) (by rw [F.mg]; exact hm) (pa_cons pe_w (pa_cons pe_w pa_nil (hs2 X F)) (hs X F)) (hs X F) (hpl X F), fun σ G H s R k => h X F σ G H s _ fun v G1 H1 d x1 s1 r1 p1 => h' X F σ G1 H1 s1 _ fun v2 G2 H2 d2 x2 s2 r2 p2 => by
    subst p1; subst p2
    obtain ⟨a, xs, rfl, h1, h3⟩ := seqD_kn (r1.mono x2.g)
    obtain ⟨b, ys, rfl, g1, g3⟩ := seqD_kn r2
    rw [F.K]
    exact ⟨a, b, xs, ys, rfl, h1.up s2.ex, g1.up s2.ex, k _ G2 H2 _ (x1.trans x2) s2 (yieldsQ h1 h3 g1 g3) rfl⟩⟩
end
end Dl


set_option Elab.async false
set_option linter.all false
/-! a comprehension that is owned; an owned list known for one expression only -/
namespace Dl
open PySem L2
section
variable {I : Inf} {c : Ct} {ds : List SD} {e a b : Expr} {P PA PB : D → Prop} {pos : Pos} {A : After} {PL : List D → Prop}
theorem rs_setLcF {i : Nat} {y : Str} {py : Pos} {elt tg iter : Expr} {ifs : List Expr} {scope : Scope} {spos : Pos} (own : List (Str × Nat)) {asg : D → List (Nat × D) → Prop} {PL : List D → Prop} {keep : D → Bool} {R : D → D → Prop}
    (hN : I.N[i]? = some y) (hyl : I.sc.names.lookup y = some .local) (hl1 : (py.line == pos.line) = true) (hny : (scope.names.any fun (n, k) => n == y && (k == .local || k == .cell)) = false)
    (hb : blkC I.N I.sc scope own = true) (hw : Walk I c tg iter ds PL) (ht : TgE (I.blk scope) tg asg) (hl : ∀ items, PL items → items.length ≤ Lm)
    (he : ∀ items, PL items → ∀ d ∈ items, ∃ as, asg d as ∧ (∀ q ∈ as, q.1 ∈ own.map (fun x : Str × Nat => x.2)) ∧ EvIs (I.blk scope) c ifs (setDs (wipeDs ds (own.map (fun x : Str × Nat => x.2))) as) (keep d) ∧ (keep d = true → EvE (I.blk scope) c elt (setDs (wipeDs ds (own.map (fun x : Str × Nat => x.2))) as) (R d)))
    (hn : ∀ items l, PL items → Made keep R items l → A.nx (ds.set i (.own l)))
    (hs : ∀ X, Fits I X → ∀ x, foldedSetIterable iter X.env x = pure x := by intros; rfl) :
    RunS I c (.Assign [.Name y py] (.ListComp elt [⟨tg, iter, ifs, 0⟩] scope pos) spos) ds A := fun X F σ G H E s k => by
  obtain ⟨wi, hi, qi⟩ := hw X F
  obtain ⟨g, hg, qg⟩ := ht
  have hk : scope.kind = .function := (blkOk_by hb).kind
  have key : tLc wi g (uI (I.blk scope) ifs) (uE (I.blk scope) elt) (own.map (fun x : Str × Nat => x.2)) σ H (fun v H1 => gName i v σ H1 E.nx) := by
    have := ef_lc_core own hb hi qi hg qg hl he X F σ G H s
    exact this (fun v H1 => gName i v σ H1 E.nx) (fun p xs G1 H1 l x1 s1 np hgp hd hll hh r1 ⟨items, pl, made⟩ => by
      exact k.nx _ G1 H1 _ x1.g (own_new s s1 np hgp hll hh r1) (hn items l pl made))
  exact w_ps (ps_setLc (own := own) F.calm (by rw [F.N]; exact F.nd) (by rw [F.N]; exact hN) (by rw [F.sc]; exact hyl) (sw_true (by rw [F.sc]; exact F.kind) (by rw [F.sc]; exact hyl) hl1 hny) hi (by rw [F.N, F.sc]; exact blkOk_by hb)
    (fun s H C cl fp => hg _ (F.blk hk s H C cl fp)) (fun s H C cl fp => pts_u (F.blk hk s H C cl fp)) (fun s H C cl fp => pe_u (F.blk hk s H C cl fp)) (hs X F)) key

/-- G without p -/
def less1 (G : Hp) (p : Addr) : Hp := fun a => if a = p then none else G a
theorem less1_ne {G : Hp} {p a : Addr} (h : a ≠ p) : less1 G p a = G a := if_neg h
theorem less1_self {G : Hp} {p : Addr} : less1 G p p = none := if_pos rfl
/-- what does not lean on lists -/
inductive Flat : D → Prop where
  | int (i : Int) : Flat (.int i)
  | bl (b : Bool) : Flat (.bool b)
  | tup (r : List Int) : Flat (.tuple (r.map PyData.int))
theorem Flat.less {K : Frag} {G : Hp} {p : Addr} {xs : List V} {d : D} {v : V} (hp : G p = some (.lst xs)) (f : Flat d) (h : Rp K G d v) : Rp K (less1 G p) d v := by
  cases f with
  | int i => rw [h.int']; exact .int
  | bl b => rw [h.bl']; exact .bl
  | tup r =>
    obtain ⟨a, ys, rfl, q, hl, rr⟩ := h.tup'
    refine .tup ?_ hl (RpA.ints.mpr (RpA.ints.mp rr))
    rcases q with (q | ⟨o, q⟩) | q
    · refine .inl (.inl ?_)
      rw [less1_ne (fun z => by rw [z, hp] at q; cases q)]; exact q
    · refine .inl (.inr ⟨o, ?_⟩)
      rw [less1_ne (fun z => by rw [z, hp] at q; cases q)]; exact q
    · exact .inr q
/-- an owned list is known while an expression is reckoned whose value does not lean on it -/
theorem ev_borrow {i : Nat} {l : List D} (h : ds[i]? = some (.own l)) (he : EvE I c e (ds.set i (.dat (.list l))) P) (hf : ∀ d, P d → Flat d) : EvE I c e ds P := fun X F σ G H s Q k => by
  obtain ⟨p, xs0, hp, h0, h1, h2, h3, h4, h5⟩ := own_at s h
  obtain ⟨xs, s1, ex, r1⟩ := own_know s h hp
  have hH : H p = some (.lst xs) := s1.ex _ _ upd_same
  refine he X F σ _ H s1 Q fun v G' H' d gr s' r pd => ?_
  have hp' : G' p = some (.lst xs) := gr.g _ _ upd_same
  have eg : Ex G (less1 G' p) := fun a o ha => by
    rw [less1_ne (fun z => by rw [z, h1] at ha; cases ha)]
    exact gr.g a o (Ex.new h1 a o ha)
  have le : Ex (less1 G' p) G' := fun a o ha => by
    by_cases z : a = p
    · rw [z, less1_self] at ha; cases ha
    · rwa [less1_ne z] at ha
  have gr2 : Gr c.Z G H (less1 G' p) H' := by
    refine ⟨eg, gr.h, fun q hq => ?_, gr.dom⟩
    by_cases z : q = p
    · rw [z, less1_self] at hq; exact absurd rfl hq
    · rw [less1_ne z] at hq
      rcases gr.nw q hq with w | w
      · rw [upd_ne z] at w; exact .inl w
      · exact .inr w
  have t : State I.K c.Z c.G0 c.H0 (less1 G' p) H' [] [] := by
    refine ⟨le.trans s'.ex, s.exg.trans eg, fun q hq => s'.nw q (fun z => hq ?_), s'.exm, ?_, rfl, s'.giv, fun j sd hj => by simp at hj, fun j m d1 d2 q _ hj => by simp at hj⟩
    · by_cases w : q = p
      · rw [w, less1_self]
      · rw [less1_ne w]; exact z
    · have hd := s'.deck
      unfold DeckIn at *
      split
      · trivial
      · rename_i dk cc hq
        rw [hq] at hd
        obtain ⟨d1, d2, d3, rest⟩ := hd
        have nn : ∀ q, G' q = none → less1 G' p q = none := fun q hq => by
          by_cases w : q = p
          · rw [w, less1_self]
          · rw [less1_ne w]; exact hq
        exact ⟨nn _ d1, nn _ d2, d3, rest⟩
  exact k v (less1 G' p) H' d gr2 (State.regrow s t gr2) ((hf d pd).less hp' r) pd
end
end Dl


set_option Elab.async false
set_option maxRecDepth 100000
set_option linter.all false
set_option maxHeartbeats 1000000
/-! a law's beginning: the script, the deck made of it -/
namespace Dl
open PySem PySem.Spec PyProof.Rows L2
theorem pick_rev (items : Array Value) : slicePick items none none (some (-1)) = items.toList.reverse.toArray := PySem.W.krv_pick items
theorem Vals.rev {xs : List V} {us : List Value} (r : Vals xs us) : Vals xs.reverse us.reverse := by
  induction r with
  | nil => exact .nil
  | @cons x u xs us h t ih =>
    rw [List.reverse_cons, List.reverse_cons]
    exact ih.append (.cons h .nil)
/-- e[::-1] of a list -/
theorem pe_rev {X : Cx} {e : Expr} {te ts : TE} {p1 p2 p3 pos : Pos} {j} (he : PE X e te) (hst : PE X (.UnaryOp .USub (.Constant (.int 1) j p1) p3) ts) :
    PE X (.Subscript e (.Slice none none (some (.UnaryOp .USub (.Constant (.int 1) j p1) p3)) p2) pos) (fun σ H Q => te σ H fun x H1 => ts σ H1 fun y H2 => ∃ a xs, x = .ref a ∧ y = .int (-1) ∧ SqL X.K H2 a xs ∧ ∀ p, H2 p = none → Q (.ref p) (upd H2 p (.lst xs.reverse))) := by
  refine ⟨fun pins s σ H Q I h => Subscript_ (thn (he.run pins s σ H _ I h) fun v s1 ⟨x, H1, I1, r1, q1⟩ => wpAny_Slice ?_)⟩
  rw [evalPart_none, evalPart_some]
  refine wpAny_pure (wpAny_pure (thn (hst.run pins s1 σ H1 _ I1 q1) fun vk s3 ⟨y, H3, I3, ry, a, xs, ex, ey, hx, q⟩ => ?_))
  subst ex; subst ey
  obtain ⟨tk, rfl⟩ := ry
  cases r1
  have I4 : Inv X pins σ H3 { s3 with heap := s3.heap.push { cls := .type "slice", data := .fields #[.none, .none, .int (-1) tk] } } := I3.kept (t' := s3.toks) fun b ob q => Heap.get?_push_of_some _ q
  obtain ⟨its, r, ht, hz⟩ := I4.list hx
  have hlen := r.length
  show wpAny (model X.prog X.w) X.A (subscriptTail e (.Slice none none (some (.UnaryOp .USub (.Constant (.int 1) j p1) p3)) p2) (.ref a) (.ref s3.heap.objs.size)) (EP X pins σ Q) X.xe { s3 with heap := s3.heap.push { cls := .type "slice", data := .fields #[.none, .none, .int (-1) tk] } }
  refine PyProof.Rows.tail_any (ops := [.ref a, .ref s3.heap.objs.size]) ht.isList.typeIs slot_list_getitem.lookup ?_ (by with_unfolding_all rfl)
  refine wpAny_getItem_list_slice ht.isList (Heap.IsSliceOf.new ..) .none .none (.int (-1) tk) (by decide) ?_ (by rw [List.size_toArray]; omega)
  rw [pick_rev]
  refine ⟨.ref _, _, I4.laid (t' := s3.toks) (o := .lst xs.reverse) (fun b ob q => Heap.get?_push_of_some _ q) (Nat.le_refl _) ?_, rfl, q _ (I4.hok.fresh (Nat.le_refl _))⟩
  exact ⟨by rw [List.length_reverse]; exact hz, its.reverse, 0, Vals.rev r, by
    have := Heap.get?_push_size (s3.heap.push { cls := .type "slice", data := .fields #[.none, .none, .int (-1) tk] }) (o := { cls := .type "list", data := .seq its.toArray.toList.reverse.toArray }) rfl
    simpa using this⟩
section
variable {I : Inf} {c : Ct} {ds : List SD} {e : Expr} {P : D → Prop} {pos : Pos} {A : After}
theorem SqL.keep {K : Frag} {H H' : Hp} {a : Addr} {xs : List V} (k : ∀ o, H a = some o → H' a = some o) (h : SqL K H a xs) : SqL K H' a xs := by
  rcases h with (h | ⟨o, h⟩) | h
  · exact .inl (.inl (k _ h))
  · exact .inl (.inr ⟨o, k _ h⟩)
  · exact .inr h
/-- script[:m], a fresh list of ints -/
theorem ef_script {i m : Nat} {x : Str} {p p1 p2 : Pos} {j} {a : Addr} {ns : List Int} (hN : I.N[i]? = some x) (hv : Vis I.sc x) (hd : ds[i]? = some (.raw (.ref a))) (hs : SqL I.K c.H0 a (ns.map V.int)) (hz : c.Z = {}) (hl : ns.length ≤ 1000)
    (h1 : (x == ("__debug__" : Str)) = false := by decide) (h2 : (x == ("__classdict__" : Str)) = false := by decide) :
    EvF I c (.Subscript (.Name x p) (.Slice none (some (.Constant (.int (m : Nat)) j p1)) none p2) pos) ds (· = (ns.take m).map PyData.int) := fun X F σ G H s Q k => by
  have hz' : ∀ b, ¬ inZ c.Z b := fun b z => by rw [hz] at z; rcases z with z | z <;> cases z
  refine w_pe (pe_slice sl_list (pe_var (i := i) (by rw [F.N]; exact hN) (by rw [F.sc]; exact hv) h1 h2) po_none (po_some pe_int)) ?_
  have hq := s.slots i _ hd
  refine ⟨.ref a, ?_, ?_⟩
  · have : (σ[i]?).join = some (V.ref a) := hq
    cases e : σ[i]? with
    | none => rw [e] at this; cases this
    | some o => rw [e] at this; rw [show o = some (V.ref a) from this]
  refine ⟨_, rfl, a, ns.map V.int, rfl, by rw [F.K]; exact SqL.keep (fun o h => s.exm a o h (hz' a)) hs, fun q hq0 => ?_⟩
  have e : cutV (ns.map V.int) none (some ((m : Nat) : Int)) = (ns.take m).map V.int := by
    unfold cutV
    rw [HT.sIx_none, HT.sIx_nat, List.drop_zero, Nat.sub_zero, ← List.map_take, List.length_map]
    rcases Nat.le_total m ns.length with h | h
    · rw [Nat.min_eq_left h]
    · rw [Nat.min_eq_right h, List.take_of_length_le (Nat.le_refl _), List.take_of_length_le h]
  rw [e]
  have s' := s.aside (o := .lst ((ns.take m).map V.int)) hq0
  refine k q _ G _ _ ⟨Ex.refl G, fun b o h _ => Ex.new hq0 b o h, fun b hb => .inl hb, fun b hb => ?_⟩ s' hq0 (s.gnone hq0) (s.ndeck hq0) (by rw [List.length_map, List.length_take]; show _ ≤ 100000; omega) upd_same (RpA.ints.mpr rfl) rfl
  by_cases z : b = q
  · rw [z, upd_same]; exact fun z => nomatch z
  · rw [upd_ne z]; exact hb
/-- e[::-1] as a fresh list -/
theorem ef_rev {l : List D} {p1 p2 p3 : Pos} {j} (h : EvE I c e ds (· = .list l)) : EvF I c (.Subscript e (.Slice none none (some (.UnaryOp .USub (.Constant (.int 1) j p1) p3)) p2) pos) ds (· = l.reverse) := fun X F σ G H s Q k =>
  w_pe (pe_rev pe_w pe_w) (h X F σ G H s _ fun v G1 H1 d x1 s1 r1 p1 => (show EvE I c _ ds (· = .int (-1)) from ev_neg (i := 1) ev_int) X F σ G1 H1 s1 _ fun w G2 H2 d2 x2 s2 r2 p2 => by
    subst p1; subst p2
    obtain ⟨a, xs, rfl, h1, h2, h3⟩ := (r1.mono x2.g).lst'
    refine ⟨a, xs, rfl, r2.int', SqL.of (s2.ex _ _ h1), fun q hq => ?_⟩
    have rr : ∀ {ds : List D} {vs : List V}, RpA I.K G2 ds vs → RpA I.K G2 ds.reverse vs.reverse := by
      intro ds
      induction ds with
      | nil => intro vs h; unfold RpA at h; subst h; exact RpA.nil
      | cons d ds ih =>
        intro vs h
        obtain ⟨v, ws, rfl, g1, g2⟩ := h.inv
        rw [List.reverse_cons, List.reverse_cons]
        exact (ih g2).append (RpA.cons g1 RpA.nil)
    have hqH : H q = none := by
      cases z : H q with
      | none => rfl
      | some o => exact absurd hq (x2.dom q (x1.dom q (by rw [z]; exact fun z => nomatch z)))
    refine k q _ G2 _ _ ((x1.trans x2).trans ⟨Ex.refl G2, fun b o h _ => Ex.new hq b o h, fun b hb => .inl hb, fun b hb => ?_⟩) (s2.aside hq) hqH (s2.gnone hq) (s2.ndeck hq) (by rw [List.length_reverse]; exact h2) upd_same (rr h3) rfl
    by_cases z : b = q
    · rw [z, upd_same]; exact fun z => nomatch z
    · rw [upd_ne z]; exact hb)
/-! what ends in a deck -/
def DeckEnd (c : Ct) (E : Ends) : Prop := ∀ (dk cc : Addr) (H' : Hp) (cells : List Int) (mixed : Int), dk ≠ cc → cells.length ≤ 64 → 0 ≤ mixed → mixed < 2147483587 → H' dk = some (deckO cc mixed 0) → H' cc = some (.lst (cells.map V.int)) → E.rt (.ref dk) H'
def RunD (I : Inf) (c : Ct) (ss : List Stmt) (ds : List SD) : Prop := ∀ X, Fits I X → ∀ σ G H E, S I c G H σ ds → DeckEnd c E → wSs X ss E σ H
theorem rund_cons {st : Stmt} {rest : List Stmt} {Mid : List SD → Prop} (h1 : RunS I c st ds { nx := Mid, rt := fun _ => False }) (h2 : ∀ ds', Mid ds' → RunD I c rest ds') : RunD I c (st :: rest) ds := fun X F σ G H E s k =>
  w_pss (pss_cons ps_w pss_w) (h1 X F σ G H { E with nx := wSs X rest E } s ⟨fun σ' G' H' ds' _ s' m => h2 ds' m X F σ' G' H' E s' k, fun _ _ _ _ _ _ z => z.elim, fun _ _ _ _ _ _ z => z.elim, fun _ _ _ _ _ _ z => z.elim, fun _ _ _ _ _ _ _ _ _ _ _ _ z => z.elim, fun _ _ _ _ _ _ _ _ _ _ _ _ _ _ _ _ _ _ _ _ z => z.elim⟩)
theorem rund_to {st : Stmt} {rest : List Stmt} {ds1 : List SD} (h1 : RunS I c st ds { nx := (· = ds1), rt := fun _ => False }) (h2 : RunD I c rest ds1) : RunD I c (st :: rest) ds := rund_cons h1 fun ds' e => by rw [e]; exact h2
theorem put3 {cc : Addr} {m : Int} : mergeK [] [(Sum.inr ("cells" : Str), V.ref cc), (Sum.inr ("mixed" : Str), V.int m), (Sum.inr ("draws" : Str), V.int 0)] = [(Sum.inr ("cells" : Str), V.ref cc), (Sum.inr ("mixed" : Str), V.int m), (Sum.inr ("draws" : Str), V.int 0)] := rfl
/-- return {'cells': .., 'mixed': .., 'draws': 0} -/
theorem rund_ret {e1 e2 e3 : Expr} {k1 k2 k3 : Pos} {j1 j2 j3} {p : Pos} {m : Int} (h1 : EvF I c e1 ds (fun l => ∃ cells : List Int, l = cells.map PyData.int ∧ cells.length ≤ 64)) (h2 : EvE I c e2 ds (· = .int m)) (h3 : EvE I c e3 ds (· = .int 0)) (hm0 : 0 ≤ m) (hm : m < 2147483587) :
    RunD I c [.Return (some (.Dict [some (.Constant (.str "cells") j1 k1), some (.Constant (.str "mixed") j2 k2), some (.Constant (.str "draws") j3 k3)] [e1, e2, e3] p)) pos] ds := fun X F σ G H E s k => by
  refine w_pss (pss_one (ps_ret (pe_disp (pps_cons pe_str pe_w (pps_cons pe_str pe_w (pps_cons pe_str pe_w pps_nil))) rfl rfl (by simp) (by show 3 ≤ 15; decide)))) ?_
  intro q hq
  have s0 := s.aside (o := .dK []) hq
  refine h1 X F σ G _ s0 _ fun cp xs G1 H1 l g1 s1 np hg hnd hl hh r ⟨cells, el, hc⟩ => ?_
  subst el
  have ex : xs = cells.map V.int := RpA.ints.mp r
  subst ex
  have hqz : ¬ inDeck c.Z q := fun z => (s.deck.ne z).1 hq
  have hq1 : H1 q = some (.dK []) := g1.h _ _ upd_same hqz
  refine h2 X F σ G1 H1 s1 _ fun v G2 H2 d x2 s2 r2 p2 => h3 X F σ G2 H2 s2 _ fun v3 G3 H3 d3 x3 s3 r3 p3 => ?_
  subst p2; subst p3
  rw [r2.int', r3.int']
  have hq3 : H3 q = some (.dK []) := x3.h _ _ (x2.h _ _ hq1 hqz) hqz
  have hc3 : H3 cp = some (.lst (cells.map V.int)) := x3.h _ _ (x2.h _ _ hh hnd) hnd
  have hne : q ≠ cp := fun z => by rw [z, upd_same] at np; cases np
  show _ ∧ ∃ kvs, _
  refine ⟨hq3, [(Sum.inr ("cells" : Str), V.ref cp), (Sum.inr ("mixed" : Str), V.int m), (Sum.inr ("draws" : Str), V.int 0)], rfl, by show 3 ≤ 15; decide, ?_⟩
  exact k q cp _ cells m hne hc hm0 hm (by rw [upd_same, put3]; rfl) (by rw [upd_ne hne.symm]; exact hc3)
end
end Dl


set_option Elab.async false
set_option maxRecDepth 100000
set_option linter.all false
set_option maxHeartbeats 1000000
/-! the sum of a tuple of ints; any -/
namespace Dl
open PySem PySem.Spec PyProof.Rows L2
theorem sum_tup {prog : Program} {w : World} {A : Around} {E : Value → Shared → Prop} {s : Shared} {l : Addr} {its : List Value} {ns : List Int} {Q : Value → Shared → Prop} (hh : A.handled = none) (ht : s.heap.IsTuple l its.toArray) (hi : IntsAre its ns)
    (h : ∀ h' tk t', (∀ b o, s.heap.get? b = some o → h'.get? b = some o) → Q (.int ns.sum t') { s with heap := h', toks := tk }) : wpAny (model prog w) A (call (.builtin "sum") [.ref l]) Q E s := by
  obtain ⟨xs, e⟩ := hi.allInts.items
  have hn : numsOf (intItems xs).toList = ns := by rw [← e]; exact hi.numsOf
  rw [nums_intItems] at hn
  rw [e] at ht
  have hlt : l < s.heap.objs.size := by obtain ⟨_, e, _⟩ := ht; exact Heap.lt_size e
  refine call_sum_walkG (iter_tuple ht ?_)
  refine ⟨_, _, _, _, _, _, numAt xs, rfl, Walks.tuple (A := A.in1) hh s.heap.objs.size l (Nat.ne_of_lt hlt) (intItems xs), ⟨⟨_, Heap.get?_push_size _ rfl, rfl, rfl⟩, ?_⟩, fun b hb => ?_, (fun _ _ => intItems_at), fun h' tk t' hk => ?_⟩
  · obtain ⟨o, h1, h2⟩ := ht
    exact ⟨o, Heap.get?_push_of_some _ h1, h2⟩
  · show b < (s.heap.push _).objs.size
    rw [Heap.size_push]
    rcases List.mem_cons.mp hb with rfl | hb
    · exact Nat.lt_succ_self _
    · rcases List.mem_cons.mp hb with rfl | hb
      · exact Nat.lt_succ_of_lt hlt
      · cases hb
  · have := h h' tk t' (fun b o eo => hk b o (fun hm => by
      rcases List.mem_cons.mp hm with e1 | hm
      · exact absurd (e1 ▸ Heap.lt_size eo) (Nat.lt_irrefl _)
      · cases hm) (Heap.get?_push_of_some _ eo))
    have e2 : preSum (numAt xs) (intItems xs).size = ns.sum := by
      rw [preSum_eq, List.take_of_length_le (by simp [intItems]), hn]
    rw [e2]; exact this
section
variable {X : Cx}
def rSumT (K : PySem.W.Frag) : List V → Hp → VK → Prop := fun vs H Q => ∃ (a : Addr) (ns : List Int), vs = [V.ref a] ∧ SqT K H a (ns.map V.int) ∧ Q (.int ns.sum) H
theorem cr_sumT (hc : X.calm = true) : CallR X (.builtin "sum") (rSumT X.K) := by
  intro pins s σ H vs us Q I r h
  obtain ⟨a, ns, rfl, hs, q⟩ := h
  obtain ⟨its, rv, ht, _⟩ := I.tuple hs
  rw [Vals.ref1 r]
  exact sum_tup (I.ok.hd hc) ht rv.ints fun h' tk t' hk => ⟨.int _, H, I.kept hk, ⟨_, rfl⟩, q⟩
end
section
variable {I : Inf} {c : Ct} {ds : List SD} {e : Expr} {pos p : Pos}
theorem ev_sumT {ns : List Int} (hg : I.sc.names.lookup ("sum" : Str) = some .globalImplicit) (hm : I.mg "sum" = none) (ha : EvE I c e ds (· = .tuple (ns.map PyData.int))) (hs : ∀ X, Fits I X → starEach [e] X.env = (false, eval e X.env) :: starEach [] X.env := by intros; rfl) :
    EvE I c (.Call (.Name "sum" p) [e] [] pos) ds (· = .int ns.sum) :=
  ev_callB (id := "sum") (r := rSumT I.K) (fun X F => by have := cr_sumT (X := X) F.calm; rw [F.K] at this; exact this) hg hm (by decide +kernel) (ea_1 ha hs) (he := hs) (fun l ⟨d, hl, hd⟩ σ G H vs s r Q k => by
    subst hl; subst hd
    obtain ⟨v, rfl, r1⟩ := rpa1 r
    obtain ⟨a, xs, rfl, h1, h2, h3⟩ := r1.tup'
    rw [RpA.ints] at h3; subst h3
    exact ⟨a, ns, rfl, ex_t s.ex h1, k.now s .int rfl⟩)
theorem ev_any {bs : List Bool} (hg : I.sc.names.lookup ("any" : Str) = some .globalImplicit) (hm : I.mg "any" = none) (ha : EvE I c e ds (· = .list (bs.map PyData.bool))) (hs : ∀ X, Fits I X → starEach [e] X.env = (false, eval e X.env) :: starEach [] X.env := by intros; rfl) :
    EvE I c (.Call (.Name "any" p) [e] [] pos) ds (· = .bool (bs.any id)) :=
  ev_callB (id := "any") (r := rAny I.K) (fun X F => by have := cr_any (X := X) F.calm; rw [F.K] at this; exact this) hg hm (by decide +kernel) (ea_1 ha hs) (he := hs) (fun l ⟨d, hl, hd⟩ σ G H vs s r Q k => by
    subst hl; subst hd
    obtain ⟨v, rfl, r1⟩ := rpa1 r
    obtain ⟨a, xs, rfl, h1, h2, h3⟩ := r1.lst'
    rw [RpA.bools] at h3; subst h3
    exact ⟨a, bs, rfl, SqL.of (s.ex _ _ h1), k.now s .bl rfl⟩)
theorem ev_as {x y : D} (h : EvE I c e ds (· = x)) (h' : x = y) : EvE I c e ds (· = y) := by rw [← h']; exact h
theorem et_as {x y : Bool} (h : EvT I c e ds (· = x)) (h' : x = y) : EvT I c e ds (· = y) := by rw [← h']; exact h
theorem ev_to {P Q : D → Prop} (h : EvE I c e ds P) (h' : ∀ d, P d → Q d) : EvE I c e ds Q := h.imp h'
theorem ev_maxL {ns : List Int} (hg : I.sc.names.lookup ("max" : Str) = some .globalImplicit) (hm : I.mg "max" = none) (ha : EvE I c e ds (· = .list (ns.map PyData.int))) (hne : 0 < ns.length) (hs : ∀ X, Fits I X → starEach [e] X.env = (false, eval e X.env) :: starEach [] X.env := by intros; rfl) :
    EvE I c (.Call (.Name "max" p) [e] [] pos) ds (IsI (fun m => m ∈ ns ∧ ∀ y ∈ ns, y ≤ m)) :=
  ev_callB (id := "max") (r := rMax I.K) (fun X F => by have := cr_max (X := X) F.calm; rw [F.K] at this; exact this) hg hm (by decide +kernel) (ea_1 ha hs) (he := hs) (fun l ⟨d, hl, hd⟩ σ G H vs s r Q k => by
    subst hl; subst hd
    obtain ⟨v, rfl, r1⟩ := rpa1 r
    obtain ⟨a, xs, rfl, h1, h2, h3⟩ := r1.lst'
    rw [RpA.ints] at h3; subst h3
    exact ⟨a, ns, rfl, SqL.of (s.ex _ _ h1), hne, fun m g1 g2 => k.now s .int ⟨m, rfl, g1, g2⟩⟩)
theorem ew_andP {e b : Expr} {rest : List Expr} {x : Bool} {PT : Bool → Prop} (h1 : EvT I c e ds (· = x)) (h2 : x = true → EvW I c (.BoolOp .And (b :: rest) pos) ds PT) (h0 : x = false → PT false) : EvW I c (.BoolOp .And (e :: b :: rest) pos) ds PT :=
  fun X F σ G H s Q k => w_pw (pw_and pt_w pw_w) (h1 X F σ G H s _ fun b' G1 H1 x1 s1 p1 => by
    cases b' with
    | true => exact iteT (h2 p1.symm X F σ G1 H1 s1 _ fun b2 G2 H2 x2 s2 p2 => k b2 G2 H2 (x1.trans x2) s2 p2)
    | false => exact iteF (k false G1 H1 x1 s1 (h0 p1.symm)))
end
end Dl


set_option Elab.async false
set_option maxRecDepth 100000
set_option exponentiation.threshold 2000
set_option linter.all false
set_option maxHeartbeats 1000000
namespace K8
open PySem L2 Dl
local macro_rules | `(tactic| walk_at "vis") => `(tactic| first | exact Or.inl rfl | exact Or.inr (Or.inl rfl) | exact Or.inr (Or.inr rfl))
local macro_rules | `(tactic| walk_at "sto") => `(tactic| first | exact ⟨rfl, Or.inl rfl, Or.inl rfl⟩ | exact ⟨rfl, Or.inl rfl, Or.inr rfl⟩ | exact ⟨rfl, Or.inr rfl, Or.inl rfl⟩)
local macro_rules | `(tactic| walk_at "var") => `(tactic| first
  | exact ev_var 0 rfl (by walk_at "vis") rfl | exact ev_var 1 rfl (by walk_at "vis") rfl | exact ev_var 2 rfl (by walk_at "vis") rfl | exact ev_var 3 rfl (by walk_at "vis") rfl
  | exact ev_var 4 rfl (by walk_at "vis") rfl | exact ev_var 5 rfl (by walk_at "vis") rfl | exact ev_var 6 rfl (by walk_at "vis") rfl | exact ev_var 7 rfl (by walk_at "vis") rfl
  | exact ev_var 8 rfl (by walk_at "vis") rfl | exact ev_var 9 rfl (by walk_at "vis") rfl | exact ev_var 10 rfl (by walk_at "vis") rfl | exact ev_var 11 rfl (by walk_at "vis") rfl
  | exact ev_var 12 rfl (by walk_at "vis") rfl | exact ev_var 13 rfl (by walk_at "vis") rfl | exact ev_var 14 rfl (by walk_at "vis") rfl | exact ev_var 15 rfl (by walk_at "vis") rfl)

local macro_rules | `(tactic| walk_at "ev") => `(tactic| first
  | exact ev_int | exact ev_bl | exact ev_str | exact ev_non
  | walk_at "var"
  | (refine ev_neg ?_ <;> walk_at "ev")
  | (refine ev_add ?_ ?_ <;> walk_at "ev")
  | (refine ev_sub ?_ ?_ <;> walk_at "ev"))

local macro_rules | `(tactic| walk_at "blk") => `(tactic| (dsimp only; decide +kernel))
/-- what the papers' functions need of the built-ins besides -/
def intOf : D → Int
  | .int i => i
  | _ => 0
def rowOf : D → List Int
  | .tuple l => l.map intOf
  | _ => []
theorem rowOf_wall (r : List Int) : rowOf (wallD r) = r := by
  show (r.map PyData.int).map intOf = r
  rw [List.map_map]; exact List.map_id' r
theorem map_wallF {β : Type} (g : List Int → β) (a : List (List Int)) : (a.map wallD).map (fun d => g (rowOf d)) = a.map g := by
  rw [List.map_map]; exact List.map_congr_left (fun r _ => by show g (rowOf (wallD r)) = g r; rw [rowOf_wall])
theorem all_true {α : Type} (l : List α) : (l.map (fun _ => true)).all id = true := by simp
def keepsB (n : Nat) (a b : List (List Int)) (p : List Int) : Bool := !decide (p.getD (n - 1) 0 < 1) && !(a.map (fun w => decide (dotn n w p < 0))).any id && (b.map (fun w => decide (0 < dotn n w p))).all id
theorem keepsB_iff {n : Nat} {a b : List (List Int)} {p : List Int} (hp : p.length = n) : keepsB n a b p = true ↔ Keeps n a b p := by
  unfold keepsB Keeps
  simp only [Bool.and_eq_true, Bool.not_eq_true', decide_eq_false_iff_not, List.any_map, List.all_map, List.any_eq_false, List.all_eq_true, Function.comp, id, decide_eq_true_eq]
  refine ⟨fun ⟨⟨h1, h2⟩, h3⟩ => ⟨hp, by omega, fun w hw => by have := h2 w hw; omega, h3⟩, fun ⟨_, h1, h2, h3⟩ => ⟨⟨by omega, fun w hw => by have := h2 w hw; omega⟩, h3⟩⟩
/-- rows of one length, small ones -/
structure Sr (n : Nat) (ws : List (List Int)) : Prop where
  few : ws.length ≤ 1000
  len : ∀ r ∈ ws, r.length = n
  sm : ∀ r ∈ ws, SmRow r
theorem last_at {p : List Int} {n : Nat} (h1 : 1 ≤ n) (hp : p.length = n) : atI (p.map PyData.int) (-1) = some (.int (p.getD (n - 1) 0)) := by
  have hne : p ≠ [] := fun e => by subst e; simp at hp; omega
  have hsp : p = p.dropLast ++ [p.getLast hne] := (List.dropLast_concat_getLast hne).symm
  have e : p.getD (n - 1) 0 = p.getLast hne := by
    rw [List.getLast_eq_getElem, List.getD_eq_getElem?_getD, List.getElem?_eq_getElem (by omega)]; simp [hp]
  rw [e]
  conv => lhs; rw [hsp]
  rw [List.map_append]; exact atI_last _ _
theorem canLay_ints (ns : List Int) : PyData.canLayAll0 (ns.map PyData.int) = true := by
  induction ns with
  | nil => simp [PyData.canLayAll0]
  | cons n ns ih => simp [PyData.canLayAll0, PyData.canLay0, ih]
theorem shaped_wall (r : List Int) : SeqAt.shaped (wallD r) = true := by
  have h2 := depth_ints r
  unfold wallD SeqAt.shaped
  simp only [PyData.canLay0, canLay_ints, Bool.true_and, decide_eq_true_eq]
  simp only [PyData.depth]; omega
theorem shaped_row (r : List Int) : SeqAt.shaped (rowD r) = true := by
  have h2 := depth_ints r
  unfold rowD SeqAt.shaped
  simp only [PyData.canLay0, canLay_ints, Bool.true_and, decide_eq_true_eq]
  simp only [PyData.depth]; omega
theorem eqv_nilT (l : List D) : PyData.eqv (.tuple l) (.tuple []) = decide (l = []) := by
  cases l <;> simp [PyData.eqv, PyData.eqvAll]
theorem shaped_of {l : List D} (h1 : PyData.canLayAll0 l = true) (h2 : PyData.depthAll l ≤ 10) : SeqAt.shaped (.tuple l) = true := by
  unfold SeqAt.shaped
  simp only [PyData.canLay0, h1, Bool.true_and, decide_eq_true_eq]
  simp only [PyData.depth]; omega
theorem filter_none {l : List D} : (l.filter (fun _ => false)).map id = ([] : List D) := by simp
theorem anyN {β : Type} (g : List Int → Bool) (f : D → D) (a : List (List Int)) : decide (((a.map wallD).filter (fun d => g (rowOf d))).map f = []) = !(a.map g).any id := by
  induction a with
  | nil => rfl
  | cons r a ih =>
    rw [List.map_cons, List.map_cons, List.any_cons]
    by_cases h : g r = true
    · rw [List.filter_cons_of_pos (by rw [rowOf_wall]; exact h), h]; rfl
    · rw [List.filter_cons_of_neg (by rw [rowOf_wall]; exact h), ih]; simp [show g r = false by simpa using h]
theorem shaped_onesL (l : List D) : SeqAt.shaped (.list (l.map (fun _ => PyData.int 1))) = true := by rw [ones]; exact shaped_row _
section
variable {P : Program} {w : World} {K : Frag} {mg : Str → Option Value} {base : Heap} {k : Nat} {f : Addr} {fd : FuncData}
/-! _law_is_integer(thing) -/
abbrev sLi : Stmt := top 37
theorem scLi : FnScope ["_law_thing"] ["_law_thing"] (defScope sLi) := ⟨rfl, rfl, rfl, by decide +kernel, rfl, by decide +kernel, by decide +kernel⟩
theorem ok_Li (m : Mg mg) (F : Fun K "_law_is_integer" "_law_is_integer" sLi f fd) : FnOk P w K mg base CX0 (k + 1) f fd ["_law_thing"] (spD K pcIi) := by
  refine fn_mkD F scLi (fun ads R h => by obtain ⟨_, rfl, _⟩ := h; rfl) fun c ads R h hz => ?_
  obtain ⟨x, rfl, rfl⟩ := h
  exact run_one (rs_ret (ev_and (x := true) (y := true) (ev_isi (T := "int") (d := .int x) (r := true) rfl m.isinstance rfl m.int (by decide +kernel) (by walk_at "var") (by show kitB "int" "int" = _; decide +kernel)) (fun _ =>
    ev_one ((ev_not (x := false) (ev_isi (T := "bool") (d := .int x) (r := false) rfl m.isinstance rfl m.bool (by decide +kernel) (by walk_at "var") (by show kitB "int" "bool" = _; decide +kernel)))))) rfl)

/-! _law_is_border(width, thing) -/
abbrev sLb : Stmt := top 38
theorem scLb : FnScope ["_law_width", "_law_thing", "_law_it"] ["_law_width", "_law_thing"] (defScope sLb) := ⟨rfl, rfl, rfl, by decide +kernel, rfl, by decide +kernel, by decide +kernel⟩
def pcLb : List AD → (D → Prop) → Prop := fun ads R => ∃ (n : Nat) (r : List Int), ads = [.dat (.int n), .dat (wallD r)] ∧ r.length = n ∧ n ≤ 1000 ∧ R = (· = .bool true)
theorem ok_Lb (m : Mg mg) (F : Fun K "_law_is_border" "_law_is_border" sLb f fd) (hLi : Has P w K mg base k "_law_is_integer" (spD K pcIi)) : FnOk P w K mg base CX0 (k + 1) f fd ["_law_width", "_law_thing"] (spD K pcLb) := by
  refine fn_mkD F scLb (fun ads R h => by obtain ⟨_, _, rfl, _⟩ := h; rfl) fun c ads R h hz => ?_
  obtain ⟨n, r, rfl, hr, hn, rfl⟩ := h
  refine run_one (rs_ret (ev_and (x := true) (y := true) (ev_isi (T := "tuple") (d := wallD r) (r := true) rfl m.isinstance rfl m.tuple (by decide +kernel) (by walk_at "var") (by show kitB "tuple" "tuple" = _; decide +kernel)) (fun _ =>
    ev_and (x := true) (y := true) (ev_as (ev_eqI (ev_lenT (l := r.map PyData.int) rfl m.len (by walk_at "var")) (by walk_at "var")) (by simp [hr])) (fun _ =>
      ev_one (ev_as (ev_eq (d := .list []) (e := .list []) (ev_as (ev_lc (ef_filter [("_law_it", 2)] (items := r.map PyData.int) (fun _ => false) id (by walk_at "blk") (wk_tup (by walk_at "var")) (tg_name (i := 2) (by walk_at "sto")) (by rw [List.length_map, hr]; show n ≤ 100000; omega) ?_)) (by rw [filter_none])) (ev_lst ea_nil (hl := by show 0 ≤ 100000; decide)) (by decide +kernel) (by decide +kernel)) (congrArg PyData.bool (by decide +kernel)))))) rfl)
  intro d hd
  obtain ⟨x, hx, rfl⟩ := mem_int hd
  exact ⟨_, rfl, by simp, et_not (b := true) (et_val (ev_callD (PA := (· = [.dat (.int x)])) (Pc := pcIi) ⟨hLi⟩ rfl (ed_dat (by walk_at "var") ed_nil) (fun l hl => ⟨_, ⟨x, hl, rfl⟩, fun d hd => hd⟩))), fun h => by cases h⟩

/-! _law_is_point(width, shuts, stricts, thing) -/
abbrev sLp : Stmt := top 40
theorem scLp : FnScope ["_law_width", "_law_shuts", "_law_stricts", "_law_thing", "_law_it"] ["_law_width", "_law_shuts", "_law_stricts", "_law_thing"] (defScope sLp) := ⟨rfl, rfl, rfl, by decide +kernel, rfl, by decide +kernel, by decide +kernel⟩
def pcLp : List AD → (D → Prop) → Prop := fun ads R => ∃ (n : Nat) (a b : List (List Int)) (p : List Int), ads = [.dat (.int n), .dat (wallsD a), .dat (wallsD b), .dat (wallD p)] ∧ 1 ≤ n ∧ n ≤ 8 ∧ Sr n a ∧ Sr n b ∧ p.length = n ∧ SmRow p ∧ R = (· = .bool (keepsB n a b p))
theorem ok_Lp (m : Mg mg) (F : Fun K "_law_is_point" "_law_is_point" sLp f fd) (hLb : Has P w K mg base k "_law_is_border" (spD K pcLb)) (hVal : Has P w K mg base k "_law_value" (spD K pcVal)) : FnOk P w K mg base CX0 (k + 1) f fd ["_law_width", "_law_shuts", "_law_stricts", "_law_thing"] (spD K pcLp) := by
  refine fn_mkD F scLp (fun ads R h => by obtain ⟨_, _, _, _, rfl, _⟩ := h; rfl) fun c ads R h hz => ?_
  obtain ⟨n, a, b, p, rfl, h1, h8, ha, hb, hp, sp, rfl⟩ := h
  refine run_cons (Mid := fun ds' => ¬ p.getD (n - 1) 0 < 1 ∧ ds' = [.dat (.int n), .dat (wallsD a), .dat (wallsD b), .dat (wallD p), .un]) (rs_if (PT := (· = (!true || decide (p.getD (n - 1) 0 < 1)))) (et_of (ew_or (et_not (b := true) (et_val (ev_callD (PA := (· = [.dat (.int n), .dat (wallD p)])) (Pc := pcLb) ⟨hLb⟩ rfl (ed_dat (by walk_at "var") (ed_dat (by walk_at "var") ed_nil)) (fun l hl => ⟨_, ⟨n, p, hl, hp, by omega, rfl⟩, fun d hd => hd⟩))))
      (fun _ => ew_or1 (et_lt (ev_ixT (l := p.map PyData.int) (by walk_at "var") (ev_neg ev_int) (last_at h1 hp)) ev_int))))
    (fun hh => run_one (rs_ret ev_bl (by show PyData.bool false = .bool (keepsB n a b p); unfold keepsB; rw [show decide (p.getD (n - 1) 0 < 1) = true by simpa using hh.symm]; rfl))) (fun hh => run_nil ⟨of_decide_eq_false (by simpa using hh.symm), rfl⟩)) ?_
  rintro ds' ⟨hlast, rfl⟩
  refine run_one (rs_ret (ev_and (x := !(a.map (fun w => decide (dotn n w p < 0))).any id) (y := !(b.map (fun w => decide (dotn n w p ≤ 0))).any id)
    (ev_as (ev_eq (d := .list (((a.map wallD).filter (fun d => decide (dotn n (rowOf d) p < 0))).map (fun _ => PyData.int 1))) (e := .list []) (ev_lc (ef_filter [("_law_it", 4)] (items := a.map wallD) (fun d => decide (dotn n (rowOf d) p < 0)) (fun _ => .int 1) (by walk_at "blk") (wk_tup (by walk_at "var")) (tg_name (i := 4) (by walk_at "sto")) (by rw [List.length_map]; exact Nat.le_trans ha.few (by decide)) ?_)) (ev_lst ea_nil (hl := by show 0 ≤ 100000; decide)) (shaped_onesL _) (by decide +kernel))
      (by rw [eqv_nilD, anyN (β := Nat) (fun r => decide (dotn n r p < 0)) (fun _ => PyData.int 1)]))
    (fun _ => ev_one (ev_as (ev_eq (d := .list (((b.map wallD).filter (fun d => decide (dotn n (rowOf d) p ≤ 0))).map (fun _ => PyData.int 1))) (e := .list []) (ev_lc (ef_filter [("_law_it", 4)] (items := b.map wallD) (fun d => decide (dotn n (rowOf d) p ≤ 0)) (fun _ => .int 1) (by walk_at "blk") (wk_tup (by walk_at "var")) (tg_name (i := 4) (by walk_at "sto")) (by rw [List.length_map]; exact Nat.le_trans hb.few (by decide)) ?_)) (ev_lst ea_nil (hl := by show 0 ≤ 100000; decide)) (shaped_onesL _) (by decide +kernel))
      (by rw [eqv_nilD, anyN (β := Nat) (fun r => decide (dotn n r p ≤ 0)) (fun _ => PyData.int 1)])))) ?_)
  · intro d hd
    obtain ⟨r, hr, rfl⟩ := mem_wall hd
    exact ⟨_, rfl, by simp, et_lt (i := dotn n (rowOf (wallD r)) p) (j := 0) (ev_callD (PA := (· = [.dat (wallD r), .dat (wallD p)])) (Pc := pcVal) ⟨hVal⟩ rfl (ed_dat (by walk_at "var") (ed_dat (by walk_at "var") ed_nil)) (fun l hl => ⟨_, ⟨n, r, p, hl, ha.len r hr, hp, by omega, ha.sm r hr, sp, rfl⟩, fun d hd => by rw [rowOf_wall]; exact hd⟩)) ev_int, fun _ => ev_int⟩
  · intro d hd
    obtain ⟨r, hr, rfl⟩ := mem_wall hd
    exact ⟨_, rfl, by simp, et_le (i := dotn n (rowOf (wallD r)) p) (j := 0) (ev_callD (PA := (· = [.dat (wallD r), .dat (wallD p)])) (Pc := pcVal) ⟨hVal⟩ rfl (ed_dat (by walk_at "var") (ed_dat (by walk_at "var") ed_nil)) (fun l hl => ⟨_, ⟨n, r, p, hl, hb.len r hr, hp, by omega, hb.sm r hr, sp, rfl⟩, fun d hd => by rw [rowOf_wall]; exact hd⟩)) ev_int, fun _ => ev_int⟩
  · show PyData.bool _ = .bool (keepsB n a b p)
    unfold keepsB
    rw [decide_eq_false hlast]
    congr 1
    simp only [Bool.not_false, Bool.true_and]
    congr 1
    rw [Bool.eq_iff_iff]
    simp only [Bool.not_eq_true', List.any_map, List.all_map, List.any_eq_false, List.all_eq_true, Function.comp, id, decide_eq_true_eq]
    exact ⟨fun h w hw => by have := h w hw; omega, fun h w hw => by have := h w hw; omega⟩

end

end K8

set_option linter.all false
/-! corners of rooms of the widths 2 and 3: where something is above 0 in a room, it is at a corner -/
namespace Co
theorem mul_nn {a b : Int} (h1 : 0 ≤ a) (h2 : 0 ≤ b) : 0 ≤ a * b := Int.mul_nonneg h1 h2
theorem sq_nn (a : Int) : 0 ≤ a * a := by
  rcases Int.le_total 0 a with h | h
  · exact Int.mul_nonneg h h
  · have := Int.mul_nonneg (show 0 ≤ -a by omega) (show 0 ≤ -a by omega)
    rw [Int.neg_mul_neg] at this; exact this
theorem least : ∀ (L : List (Int × Int)), (∀ x ∈ L, 0 ≤ x.1) → (∃ x ∈ L, x.2 < 0) → ∃ x ∈ L, x.2 < 0 ∧ ∀ y ∈ L, 0 ≤ x.1 * y.2 + (-x.2) * y.1
  | [], _, h => by obtain ⟨x, hx, _⟩ := h; simp at hx
  | z :: L, h0, hex => by
    have hz := h0 z (by simp)
    have h0' : ∀ x ∈ L, 0 ≤ x.1 := fun x hx => h0 x (by simp [hx])
    by_cases hL : ∃ x ∈ L, x.2 < 0
    · obtain ⟨x, hx, hx2, hb⟩ := least L h0' hL
      have hx1 := h0' x hx
      by_cases hz2 : z.2 < 0
      · by_cases hc : x.1 * (-z.2) ≤ z.1 * (-x.2)
        · refine ⟨x, by simp [hx], hx2, fun y hy => ?_⟩
          rcases List.mem_cons.mp hy with e | hy
          · subst e
            have e1 : x.1 * y.2 = -(x.1 * (-y.2)) := by rw [Int.mul_neg, Int.neg_neg]
            have e2 : -x.2 * y.1 = y.1 * (-x.2) := Int.mul_comm _ _
            omega
          · exact hb y hy
        · refine ⟨z, by simp, hz2, fun y hy => ?_⟩
          rcases List.mem_cons.mp hy with e | hy
          · subst e
            have e1 : y.1 * y.2 = -(y.1 * (-y.2)) := by rw [Int.mul_neg, Int.neg_neg]
            have e2 : -y.2 * y.1 = y.1 * (-y.2) := Int.mul_comm _ _
            omega
          · have hy1 := h0' y hy
            have hby := hb y hy
            by_cases hy2 : y.2 < 0
            · have a1 : 0 < -x.2 := by omega
              have a2 : 0 < -y.2 := by omega
              have a3 : 0 < -z.2 := by omega
              have b1 : x.1 * (-y.2) ≤ (-x.2) * y.1 := by
                have e1 : x.1 * y.2 = -(x.1 * (-y.2)) := by rw [Int.mul_neg, Int.neg_neg]
                omega
              have b2 : z.1 * (-x.2) ≤ x.1 * (-z.2) := by omega
              have c1 := Int.mul_le_mul_of_nonneg_right b2 (Int.le_of_lt a2)
              have c2 := Int.mul_le_mul_of_nonneg_left b1 (Int.le_of_lt a3)
              have e3 : x.1 * -z.2 * -y.2 = -z.2 * (x.1 * -y.2) := by rw [Int.mul_comm x.1, Int.mul_assoc]
              have e4 : z.1 * -x.2 * -y.2 = -x.2 * (z.1 * -y.2) := by rw [Int.mul_comm z.1, Int.mul_assoc]
              have e5 : -z.2 * (-x.2 * y.1) = -x.2 * (-z.2 * y.1) := by rw [← Int.mul_assoc, Int.mul_comm (-z.2), Int.mul_assoc]
              have c3 : -x.2 * (z.1 * -y.2) ≤ -x.2 * (-z.2 * y.1) := by rw [← e4, ← e5]; exact Int.le_trans c1 (by rw [e3]; exact c2)
              have c4 := Int.le_of_mul_le_mul_left c3 a1
              have e1 : z.1 * y.2 = -(z.1 * (-y.2)) := by rw [Int.mul_neg, Int.neg_neg]
              omega
            · have := mul_nn hz (show 0 ≤ y.2 by omega)
              have := mul_nn (show 0 ≤ -z.2 by omega) hy1
              omega
      · refine ⟨x, by simp [hx], hx2, fun y hy => ?_⟩
        rcases List.mem_cons.mp hy with e | hy
        · subst e
          have := mul_nn hx1 (show 0 ≤ y.2 by omega)
          have := mul_nn (show 0 ≤ -x.2 by omega) hz
          omega
        · exact hb y hy
    · have hz2 : z.2 < 0 := by
        obtain ⟨x, hx, hx2⟩ := hex
        rcases List.mem_cons.mp hx with e | hx
        · subst e; exact hx2
        · exact absurd ⟨x, hx, hx2⟩ hL
      refine ⟨z, by simp, hz2, fun y hy => ?_⟩
      rcases List.mem_cons.mp hy with e | hy
      · subst e
        have e1 : -y.2 * y.1 = -(y.1 * y.2) := by rw [Int.neg_mul, Int.mul_comm]
        omega
      · have hy2 : 0 ≤ y.2 := by
          rcases Int.lt_or_le y.2 0 with h | h
          · exact absurd ⟨y, hy, h⟩ hL
          · exact h
        have := mul_nn hz hy2
        have := mul_nn (show 0 ≤ -z.2 by omega) (h0' y hy)
        omega
/-! three items -/
structure V where
  x : Int
  y : Int
  b : Int
def dt (w p : V) : Int := w.x * p.x + w.y * p.y + w.b * p.b
def mv (i : Int) (d : V) (j : Int) (p : V) : V := ⟨i * d.x + j * p.x, i * d.y + j * p.y, i * d.b + j * p.b⟩
theorem dt_mv (w d p : V) (i j : Int) : dt w (mv i d j p) = i * dt w d + j * dt w p := by unfold dt mv; grind
theorem slide {W : List V} {p d : V} (hp : ∀ w ∈ W, 0 ≤ dt w p) (hd : ∃ w ∈ W, dt w d < 0) : ∃ w ∈ W, dt w d < 0 ∧ ∀ u ∈ W, 0 ≤ dt u (mv (dt w p) d (-dt w d) p) := by
  obtain ⟨x, hx, h1, h2⟩ := least (W.map fun w => (dt w p, dt w d)) (fun x hx => by
    obtain ⟨w, hw, rfl⟩ := List.mem_map.mp hx; exact hp w hw) (by
    obtain ⟨w, hw, h⟩ := hd; exact ⟨_, List.mem_map.mpr ⟨w, hw, rfl⟩, h⟩)
  obtain ⟨w, hw, rfl⟩ := List.mem_map.mp hx
  refine ⟨w, hw, h1, fun u hu => ?_⟩
  rw [dt_mv]
  exact h2 (dt u p, dt u d) (List.mem_map.mpr ⟨u, hu, rfl⟩)
def Boxed (W : List V) : Prop := ∃ k : Int, ⟨-1, 0, k⟩ ∈ W ∧ ⟨1, 0, k⟩ ∈ W ∧ ⟨0, -1, k⟩ ∈ W ∧ ⟨0, 1, k⟩ ∈ W
theorem ends {W : List V} (h : Boxed W) {d : V} (hb : d.b = 0) (hd : d.x ≠ 0 ∨ d.y ≠ 0) : ∃ w ∈ W, dt w d < 0 := by
  obtain ⟨k, h1, h2, h3, h4⟩ := h
  by_cases hx : d.x = 0
  · have hy : d.y ≠ 0 := by rcases hd with h | h; exact absurd hx h; exact h
    rcases Int.lt_or_gt_of_ne hy with q | q
    · exact ⟨_, h4, by unfold dt; simp [hb]; omega⟩
    · exact ⟨_, h3, by unfold dt; simp [hb]; omega⟩
  · rcases Int.lt_or_gt_of_ne hx with q | q
    · exact ⟨_, h2, by unfold dt; simp [hb]; omega⟩
    · exact ⟨_, h1, by unfold dt; simp [hb]; omega⟩
/-- one slide: onto a wall -/
theorem onto {W : List V} (h : Boxed W) {p d s : V} (hp : ∀ w ∈ W, 0 ≤ dt w p) (hpb : 0 < p.b) (hs : 0 < dt s p) (hb : d.b = 0) (hd : d.x ≠ 0 ∨ d.y ≠ 0) (hsd : 0 ≤ dt s d) :
    ∃ w ∈ W, ∃ q : V, dt w d < 0 ∧ dt w q = 0 ∧ (∀ u ∈ W, 0 ≤ dt u q) ∧ 0 < q.b ∧ 0 < dt s q ∧ ∀ v : V, dt v d = 0 → dt v p = 0 → dt v q = 0 := by
  obtain ⟨w, hw, h1, h2⟩ := slide hp (ends h hb hd)
  refine ⟨w, hw, _, h1, ?_, h2, ?_, ?_, fun v e1 e2 => ?_⟩
  · rw [dt_mv, Int.neg_mul, Int.mul_comm (dt w d)]; omega
  · show 0 < dt w p * d.b + -dt w d * p.b
    rw [hb, Int.mul_zero, Int.zero_add]
    exact Int.mul_pos (by omega) hpb
  · rw [dt_mv]
    have := mul_nn (hp w hw) hsd
    have := Int.mul_pos (show 0 < -dt w d by omega) hs
    omega
  · rw [dt_mv, e1, e2]; simp
def cross (w u : V) : V := ⟨w.y * u.b - w.b * u.y, w.b * u.x - w.x * u.b, w.x * u.y - w.y * u.x⟩
theorem cramer {w u q : V} (h1 : dt w q = 0) (h2 : dt u q = 0) (v : V) : (cross w u).b * dt v q = q.b * dt v (cross w u) := by
  unfold dt cross at *
  grind
def turn (c : V) : V := if 0 < c.b then c else ⟨-c.x, -c.y, -c.b⟩
theorem dt_turn (v c : V) : dt v (turn c) = if 0 < c.b then dt v c else -dt v c := by
  unfold turn
  split
  · rfl
  · unfold dt; grind
theorem turned {w u q : V} (h1 : dt w q = 0) (h2 : dt u q = 0) (hq : 0 < q.b) (hc : (cross w u).b ≠ 0) (v : V) : (0 ≤ dt v q → 0 ≤ dt v (turn (cross w u))) ∧ (0 < dt v q → 0 < dt v (turn (cross w u))) := by
  have e := cramer h1 h2 v
  rw [dt_turn]
  generalize dt v (cross w u) = z at *
  generalize dt v q = t at *
  generalize (cross w u).b = cb at *
  split
  · rename_i hpos
    constructor
    · intro ht
      have := mul_nn (Int.le_of_lt hpos) ht
      rw [e] at this
      rcases Int.lt_or_le z 0 with hz | hz
      · have := Int.mul_neg_of_pos_of_neg hq hz; omega
      · exact hz
    · intro ht
      have := Int.mul_pos hpos ht
      rw [e] at this
      rcases Int.lt_or_le 0 z with hz | hz
      · exact hz
      · have := Int.mul_nonpos_of_nonneg_of_nonpos (Int.le_of_lt hq) hz; omega
  · rename_i hneg
    have hcb : 0 < -cb := by omega
    have e2 : -cb * t = q.b * (-z) := by rw [Int.neg_mul, e, Int.mul_neg]
    constructor
    · intro ht
      have := mul_nn (Int.le_of_lt hcb) ht
      rw [e2] at this
      rcases Int.lt_or_le (-z) 0 with hz | hz
      · have := Int.mul_neg_of_pos_of_neg hq hz; omega
      · exact hz
    · intro ht
      have := Int.mul_pos hcb ht
      rw [e2] at this
      rcases Int.lt_or_le 0 (-z) with hz | hz
      · exact hz
      · have := Int.mul_nonpos_of_nonneg_of_nonpos (Int.le_of_lt hq) hz; omega
theorem vertex {W : List V} (h : Boxed W) {p s : V} (hp : ∀ w ∈ W, 0 ≤ dt w p) (hpb : 0 < p.b) (hs : 0 < dt s p) :
    ∃ w ∈ W, ∃ u ∈ W, (cross w u).b ≠ 0 ∧ (∀ v ∈ W, 0 ≤ dt v (turn (cross w u))) ∧ 0 < dt s (turn (cross w u)) := by
  obtain ⟨d, hb, hd, hsd⟩ : ∃ d : V, d.b = 0 ∧ (d.x ≠ 0 ∨ d.y ≠ 0) ∧ 0 ≤ dt s d := by
    by_cases hz : s.x = 0 ∧ s.y = 0
    · exact ⟨⟨1, 0, 0⟩, rfl, .inl (by decide), by unfold dt; simp [hz.1]⟩
    · refine ⟨⟨s.x, s.y, 0⟩, rfl, ?_, ?_⟩
      · by_cases hx : s.x = 0
        · exact .inr fun hy => hz ⟨hx, hy⟩
        · exact .inl hx
      · unfold dt
        have := sq_nn s.x
        have := sq_nn s.y
        simp only [Int.mul_zero, Int.add_zero]
        omega
  obtain ⟨w, hw, q, h1, h2, h3, h4, h5, _⟩ := onto h hp hpb hs hb hd hsd
  have hw0 : w.x ≠ 0 ∨ w.y ≠ 0 := by
    by_cases hx : w.x = 0
    · refine .inr fun hy => ?_
      unfold dt at h1; rw [hx, hy, hb] at h1; simp at h1
    · exact .inl hx
  obtain ⟨e, heb, he0, hwe, hse, hce⟩ : ∃ e : V, e.b = 0 ∧ (e.x ≠ 0 ∨ e.y ≠ 0) ∧ dt w e = 0 ∧ 0 ≤ dt s e ∧ ∀ u : V, dt u e ≠ 0 → (cross w u).b ≠ 0 := by
    have key : ∀ e : V, (e = ⟨-w.y, w.x, 0⟩ ∨ e = ⟨w.y, -w.x, 0⟩) → e.b = 0 ∧ (e.x ≠ 0 ∨ e.y ≠ 0) ∧ dt w e = 0 ∧ ∀ u : V, dt u e ≠ 0 → (cross w u).b ≠ 0 := by
      intro e he
      rcases he with rfl | rfl
      · refine ⟨rfl, by rcases hw0 with h | h; exact .inr h; exact .inl (by simpa using h), by unfold dt; grind, fun u hu hc => hu ?_⟩
        unfold cross at hc; unfold dt; grind
      · refine ⟨rfl, by rcases hw0 with h | h; exact .inr (by simpa using h); exact .inl h, by unfold dt; grind, fun u hu hc => hu ?_⟩
        unfold cross at hc; unfold dt; grind
    by_cases hs0 : 0 ≤ dt s ⟨-w.y, w.x, 0⟩
    · obtain ⟨k1, k2, k3, k4⟩ := key _ (.inl rfl)
      exact ⟨_, k1, k2, k3, hs0, k4⟩
    · obtain ⟨k1, k2, k3, k4⟩ := key _ (.inr rfl)
      refine ⟨_, k1, k2, k3, ?_, k4⟩
      have : dt s ⟨w.y, -w.x, 0⟩ = -dt s ⟨-w.y, w.x, 0⟩ := by unfold dt; grind
      omega
  obtain ⟨u, hu, r, g1, g2, g3, g4, g5, g6⟩ := onto h h3 h4 h5 heb he0 hse
  have hwr := g6 w hwe h2
  have hc := hce u (by omega)
  have ht := fun v => turned hwr g2 g4 hc v
  exact ⟨w, hw, u, hu, hc, fun v hv => (ht v).1 (g3 v hv), (ht s).2 g5⟩
/-! two items: the second one is not there -/
def up (w : V) : V := ⟨-w.b, 0, w.x⟩
theorem vertex2 {W : List V} {k : Int} (k1 : ⟨-1, 0, k⟩ ∈ W) (k2 : ⟨1, 0, k⟩ ∈ W) (flat : ∀ w ∈ W, w.y = 0) {p s : V} (hsy : s.y = 0) (hp : ∀ w ∈ W, 0 ≤ dt w p) (hpb : 0 < p.b) (hs : 0 < dt s p) :
    ∃ w ∈ W, w.x ≠ 0 ∧ (∀ v ∈ W, 0 ≤ dt v (turn (up w))) ∧ 0 < dt s (turn (up w)) := by
  obtain ⟨d, hb, hd, hsd, hx⟩ : ∃ d : V, d.b = 0 ∧ d.y = 0 ∧ 0 ≤ dt s d ∧ (d.x = 1 ∨ d.x = -1) := by
    by_cases h0 : 0 ≤ s.x
    · exact ⟨⟨1, 0, 0⟩, rfl, rfl, by unfold dt; simp; exact h0, .inl rfl⟩
    · exact ⟨⟨-1, 0, 0⟩, rfl, rfl, by unfold dt; simp; omega, .inr rfl⟩
  obtain ⟨w, hw, h1, h2⟩ := slide hp (show ∃ w ∈ W, dt w d < 0 by
    rcases hx with h | h
    · exact ⟨_, k1, by unfold dt; simp [h, hb]⟩
    · exact ⟨_, k2, by unfold dt; simp [h, hb]⟩)
  have hwy := flat w hw
  have hw0 : w.x ≠ 0 := fun e => by unfold dt at h1; rw [e, hwy, hb] at h1; simp at h1
  generalize hq : mv (dt w p) d (-dt w d) p = q at *
  have q1 : dt w q = 0 := by rw [← hq, dt_mv, Int.neg_mul, Int.mul_comm (dt w d)]; omega
  have q2 : 0 < q.b := by
    rw [← hq]
    show 0 < dt w p * d.b + -dt w d * p.b
    rw [hb, Int.mul_zero, Int.zero_add]
    exact Int.mul_pos (by omega) hpb
  have q3 : 0 < dt s q := by
    rw [← hq, dt_mv]
    have := mul_nn (hp w hw) hsd
    have := Int.mul_pos (show 0 < -dt w d by omega) hs
    omega
  -- the cross product with a wall of the second item alone
  have hu : ∀ v : V, v.y = 0 → dt v (up w) = dt v (cross w ⟨0, 1, 0⟩) := fun v hv => by unfold up cross dt; rw [hv]; simp
  have hub : (up w).b = (cross w ⟨0, 1, 0⟩).b := by unfold up cross; simp
  let q' : V := ⟨q.x, 0, q.b⟩
  have e1 : ∀ v : V, v.y = 0 → dt v q' = dt v q := fun v hv => by show v.x * q.x + v.y * 0 + v.b * q.b = _; unfold dt; rw [hv]; simp
  have t1 : dt w q' = 0 := by rw [e1 w hwy]; exact q1
  have t2 : dt ⟨0, 1, 0⟩ q' = 0 := by show 0 * q.x + 1 * 0 + 0 * q.b = 0; simp
  have hc : (cross w ⟨0, 1, 0⟩).b ≠ 0 := by rw [← hub]; exact hw0
  have tt := fun v => turned t1 t2 q2 hc v
  have eq : ∀ v : V, v.y = 0 → dt v (turn (up w)) = dt v (turn (cross w ⟨0, 1, 0⟩)) := fun v hv => by rw [dt_turn, dt_turn, hub, hu v hv]
  exact ⟨w, hw, hw0, fun v hv => by rw [eq v (flat v hv)]; exact (tt v).1 (by rw [e1 v (flat v hv)]; exact h2 v hv), by rw [eq s hsy]; exact (tt s).2 (by rw [e1 s hsy]; exact q3)⟩
end Co


set_option Elab.async false
set_option maxRecDepth 100000
set_option exponentiation.threshold 2000
set_option linter.all false
set_option maxHeartbeats 1000000
namespace K8
open PySem L2 Dl
local macro_rules | `(tactic| walk_at "vis") => `(tactic| first | exact Or.inl rfl | exact Or.inr (Or.inl rfl) | exact Or.inr (Or.inr rfl))
local macro_rules | `(tactic| walk_at "sto") => `(tactic| first | exact ⟨rfl, Or.inl rfl, Or.inl rfl⟩ | exact ⟨rfl, Or.inl rfl, Or.inr rfl⟩ | exact ⟨rfl, Or.inr rfl, Or.inl rfl⟩)
local macro_rules | `(tactic| walk_at "var") => `(tactic| first
  | exact ev_var 0 rfl (by walk_at "vis") rfl | exact ev_var 1 rfl (by walk_at "vis") rfl | exact ev_var 2 rfl (by walk_at "vis") rfl | exact ev_var 3 rfl (by walk_at "vis") rfl
  | exact ev_var 4 rfl (by walk_at "vis") rfl | exact ev_var 5 rfl (by walk_at "vis") rfl | exact ev_var 6 rfl (by walk_at "vis") rfl | exact ev_var 7 rfl (by walk_at "vis") rfl
  | exact ev_var 8 rfl (by walk_at "vis") rfl | exact ev_var 9 rfl (by walk_at "vis") rfl | exact ev_var 10 rfl (by walk_at "vis") rfl | exact ev_var 11 rfl (by walk_at "vis") rfl
  | exact ev_var 12 rfl (by walk_at "vis") rfl | exact ev_var 13 rfl (by walk_at "vis") rfl | exact ev_var 14 rfl (by walk_at "vis") rfl | exact ev_var 15 rfl (by walk_at "vis") rfl)

local macro_rules | `(tactic| walk_at "ev") => `(tactic| first
  | exact ev_int | exact ev_bl | exact ev_str | exact ev_non
  | walk_at "var"
  | (refine ev_neg ?_ <;> walk_at "ev")
  | (refine ev_add ?_ ?_ <;> walk_at "ev")
  | (refine ev_sub ?_ ?_ <;> walk_at "ev"))

local macro_rules | `(tactic| walk_at "blk") => `(tactic| (dsimp only; decide +kernel))
/-! the law's corners: cuts, their mean -/
def toV : List Int → Co.V
  | [x, b] => ⟨x, 0, b⟩
  | [x, y, b] => ⟨x, y, b⟩
  | _ => ⟨0, 0, 0⟩
/-- the widths 2 and 3 -/
def Two (n : Nat) : Prop := n = 2 ∨ n = 3
theorem two_rows {n : Nat} (h : Two n) {w : List Int} (hw : w.length = n) : (n = 2 ∧ ∃ a b, w = [a, b]) ∨ (n = 3 ∧ ∃ a b c, w = [a, b, c]) := by
  rcases h with rfl | rfl
  · match w, hw with
    | [a, b], _ => exact .inl ⟨rfl, a, b, rfl⟩
  · match w, hw with
    | [a, b, c], _ => exact .inr ⟨rfl, a, b, c, rfl⟩
theorem dot_V {n : Nat} (h : Two n) {w p : List Int} (hw : w.length = n) (hp : p.length = n) : dotn n w p = Co.dt (toV w) (toV p) := by
  rcases two_rows h hw with ⟨rfl, a, b, rfl⟩ | ⟨rfl, a, b, c, rfl⟩
  · match p, hp with
    | [x, y], _ => simp [dotn, Sg.sumTo, toV, Co.dt]
  · match p, hp with
    | [x, y, z], _ => simp [dotn, Sg.sumTo, toV, Co.dt]
theorem last_V {n : Nat} (h : Two n) {p : List Int} (hp : p.length = n) : p.getD (n - 1) 0 = (toV p).b := by
  rcases two_rows h hp with ⟨rfl, a, b, rfl⟩ | ⟨rfl, a, b, c, rfl⟩ <;> rfl
def rawC (n : Nat) (a b : List Int) : List Int := if n = 2 then [-(a.getD 1 0), a.getD 0 0] else [a.getD 1 0 * b.getD 2 0 - a.getD 2 0 * b.getD 1 0, a.getD 2 0 * b.getD 0 0 - a.getD 0 0 * b.getD 2 0, a.getD 0 0 * b.getD 1 0 - a.getD 1 0 * b.getD 0 0]
def cutO (n : Nat) (a b : List Int) : Option (List Int) := if (rawC n a b).getD (n - 1) 0 = 0 then none else if 0 < (rawC n a b).getD (n - 1) 0 then some (rawC n a b) else some (negL (rawC n a b))
theorem raw_len {n : Nat} (h : Two n) (a b : List Int) : (rawC n a b).length = n := by
  rcases h with rfl | rfl <;> simp [rawC]
theorem cut_V {n : Nat} (h : Two n) {a b c : List Int} (ha : a.length = n) (hb : b.length = n) (hc : cutO n a b = some c) : c.length = n ∧ 1 ≤ c.getD (n - 1) 0 ∧ toV c = Co.turn (if n = 2 then Co.up (toV a) else Co.cross (toV a) (toV b)) := by
  have hr := raw_len h a b
  unfold cutO at hc
  split at hc
  · cases hc
  · rename_i h0
    have e : toV (rawC n a b) = if n = 2 then Co.up (toV a) else Co.cross (toV a) (toV b) := by
      rcases two_rows h ha with ⟨rfl, x, y, rfl⟩ | ⟨rfl, x, y, z, rfl⟩
      · simp [rawC, toV, Co.up]
      · match b, hb with
        | [u, v, t], _ => simp [rawC, toV, Co.cross]
    have eb := last_V h hr
    split at hc
    · rename_i h1
      cases hc
      refine ⟨hr, by omega, ?_⟩
      rw [← e]; unfold Co.turn; rw [if_pos (by rw [← eb]; exact h1)]
    · rename_i h1
      cases hc
      have hn : (negL (rawC n a b)).length = n := by unfold negL; rw [List.length_map, hr]
      have en : toV (negL (rawC n a b)) = ⟨-(toV (rawC n a b)).x, -(toV (rawC n a b)).y, -(toV (rawC n a b)).b⟩ := by
        rcases two_rows h hr with ⟨_, x, y, q⟩ | ⟨_, x, y, z, q⟩
        · rw [q]; simp [negL, toV]
        · rw [q]; simp [negL, toV]
      refine ⟨hn, ?_, ?_⟩
      · rw [last_V h hn, en]
        show 1 ≤ -(toV (rawC n a b)).b
        omega
      · rw [en, ← e]; unfold Co.turn; rw [if_neg (by rw [← eb]; exact h1)]
theorem cut_some {n : Nat} (h : Two n) {a b : List Int} (ha : a.length = n) (hb : b.length = n) (hc : (if n = 2 then Co.up (toV a) else Co.cross (toV a) (toV b)).b ≠ 0) : ∃ c, cutO n a b = some c := by
  have hr := raw_len h a b
  have e : (rawC n a b).getD (n - 1) 0 = (if n = 2 then Co.up (toV a) else Co.cross (toV a) (toV b)).b := by
    rcases two_rows h ha with ⟨rfl, x, y, rfl⟩ | ⟨rfl, x, y, z, rfl⟩
    · simp [rawC, toV, Co.up]
    · match b, hb with
      | [u, v, t], _ => simp [rawC, toV, Co.cross]
  unfold cutO
  rw [if_neg (by rw [e]; exact hc)]
  split
  · exact ⟨_, rfl⟩
  · exact ⟨_, rfl⟩
/-- bits of cuts -/
theorem cut_small {n : Nat} (h : Two n) {a b c : List Int} (ha : a.length = n) (hb : b.length = n) (sa : ∀ x ∈ a, x.natAbs ≤ 2 ^ 20) (sb : ∀ x ∈ b, x.natAbs ≤ 2 ^ 20) (hc : cutO n a b = some c) : ∀ x ∈ c, x.natAbs ≤ 2 ^ 42 := by
  have pr : ∀ x y : Int, x.natAbs ≤ 2 ^ 20 → y.natAbs ≤ 2 ^ 20 → (x * y).natAbs ≤ 2 ^ 40 := fun x y h1 h2 => by
    rw [Int.natAbs_mul]
    exact Nat.le_trans (Nat.mul_le_mul h1 h2) (by decide)
  have raw : ∀ x ∈ rawC n a b, x.natAbs ≤ 2 ^ 42 := by
    rcases two_rows h ha with ⟨rfl, x, y, rfl⟩ | ⟨rfl, x, y, z, rfl⟩
    · have h1 := sa x (by simp); have h2 := sa y (by simp)
      intro q hq
      simp [rawC] at hq
      rcases hq with rfl | rfl <;> omega
    · match b, hb, sb with
      | [u, v, t], _, sb =>
        have h1 := sa x (by simp); have h2 := sa y (by simp); have h3 := sa z (by simp)
        have g1 := sb u (by simp); have g2 := sb v (by simp); have g3 := sb t (by simp)
        have p1 := pr y t h2 g3; have p2 := pr z v h3 g2; have p3 := pr z u h3 g1; have p4 := pr x t h1 g3; have p5 := pr x v h1 g2; have p6 := pr y u h2 g1
        intro q hq
        simp [rawC] at hq
        rcases hq with rfl | rfl | rfl <;> omega
  unfold cutO at hc
  split at hc
  · cases hc
  · split at hc
    · cases hc; exact raw
    · cases hc
      intro x hx
      unfold negL at hx
      obtain ⟨y, hy, rfl⟩ := List.mem_map.mp hx
      rw [Int.natAbs_neg]; exact raw y hy
def goodC (n : Nat) (ws : List (List Int)) (c : List Int) : Bool := ws.all fun w => decide (0 ≤ dotn n w c)
def mates (n : Nat) (ws : List (List Int)) (i : Nat) (one : List Int) : List (List Int) := if n = 3 then ws.take i else [one]
def tryC (n : Nat) (ws : List (List Int)) (one o : List Int) : Option (List Int) := (cutO n one o).filter (goodC n ws)
def stepC (n : Nat) (ws : List (List Int)) (i : Nat) (one : List Int) : List (List Int) := (mates n ws i one).filterMap (tryC n ws one)
def cornersL (n : Nat) (ws : List (List Int)) : List (List Int) := ws.zipIdx.flatMap fun p => stepC n ws p.2 p.1
/-- walls of one width, few and not too large -/
structure WsOk (n : Nat) (ws : List (List Int)) : Prop where
  few : ws.length ≤ 20
  len : ∀ r ∈ ws, r.length = n
  sm : ∀ r ∈ ws, ∀ x ∈ r, x.natAbs ≤ 2 ^ 20
theorem zip_get {ws : List (List Int)} {p : List Int × Nat} (h : p ∈ ws.zipIdx) : ws[p.2]? = some p.1 := by
  obtain ⟨t, i⟩ := p
  have := List.mk_mem_zipIdx_iff_getElem?.mp h
  simpa using this
theorem corner_of {n : Nat} {ws : List (List Int)} (h : Two n) (H : WsOk n ws) {c : List Int} (hc : c ∈ cornersL n ws) : c.length = n ∧ 1 ≤ c.getD (n - 1) 0 ∧ (∀ w ∈ ws, 0 ≤ dotn n w c) ∧ ∀ x ∈ c, x.natAbs ≤ 2 ^ 42 := by
  unfold cornersL at hc
  obtain ⟨p, hp, hc⟩ := List.mem_flatMap.mp hc
  unfold stepC at hc
  obtain ⟨o, ho, hc⟩ := List.mem_filterMap.mp hc
  have h1 := List.mem_of_getElem? (zip_get hp)
  have h2 : o ∈ ws := by
    unfold mates at ho
    split at ho
    · exact List.mem_of_mem_take ho
    · simp at ho; rw [ho]; exact h1
  unfold tryC at hc
  have hc' := Option.filter_eq_some_iff.mp hc
  obtain ⟨q1, q2, q3⟩ := cut_V h (H.len _ h1) (H.len _ h2) hc'.1
  refine ⟨q1, q2, fun w hw => ?_, cut_small h (H.len _ h1) (H.len _ h2) (H.sm _ h1) (H.sm _ h2) hc'.1⟩
  have := hc'.2
  unfold goodC at this
  simpa using List.all_eq_true.mp this w hw
theorem turn_cross (w u : Co.V) (h : (Co.cross w u).b ≠ 0) : Co.turn (Co.cross u w) = Co.turn (Co.cross w u) := by
  have e : Co.cross u w = ⟨-(Co.cross w u).x, -(Co.cross w u).y, -(Co.cross w u).b⟩ := by
    unfold Co.cross; simp only [Co.V.mk.injEq]
    refine ⟨?_, ?_, ?_⟩ <;> grind
  rw [e]
  generalize Co.cross w u = c at *
  unfold Co.turn
  by_cases hb : 0 < c.b
  · rw [if_pos hb, if_neg (by show ¬ 0 < -c.b; omega)]
    simp
  · rw [if_neg hb, if_pos (by show 0 < -c.b; omega)]
theorem in_corners {n : Nat} {ws : List (List Int)} (h : Two n) (H : WsOk n ws) {a b : List Int} (ha : a ∈ ws) (hb : b ∈ ws) (hne : (if n = 2 then Co.up (toV a) else Co.cross (toV a) (toV b)).b ≠ 0)
    (hg : ∀ w ∈ ws, 0 ≤ Co.dt (toV w) (Co.turn (if n = 2 then Co.up (toV a) else Co.cross (toV a) (toV b)))) : ∃ c ∈ cornersL n ws, toV c = Co.turn (if n = 2 then Co.up (toV a) else Co.cross (toV a) (toV b)) := by
  have put : ∀ (i : Nat) (one o : List Int), ws[i]? = some one → o ∈ mates n ws i one → o ∈ ws → (if n = 2 then Co.up (toV one) else Co.cross (toV one) (toV o)).b ≠ 0 → (∀ w ∈ ws, 0 ≤ Co.dt (toV w) (Co.turn (if n = 2 then Co.up (toV one) else Co.cross (toV one) (toV o)))) →
      ∃ c ∈ cornersL n ws, toV c = Co.turn (if n = 2 then Co.up (toV one) else Co.cross (toV one) (toV o)) := by
    intro i one o hi ho ho2 hne hg
    have h1 := List.mem_of_getElem? hi
    obtain ⟨c, hc⟩ := cut_some h (H.len _ h1) (H.len _ ho2) hne
    obtain ⟨q1, q2, q3⟩ := cut_V h (H.len _ h1) (H.len _ ho2) hc
    refine ⟨c, ?_, q3⟩
    unfold cornersL
    refine List.mem_flatMap.mpr ⟨(one, i), List.mk_mem_zipIdx_iff_getElem?.mpr (by simpa using hi), ?_⟩
    unfold stepC
    refine List.mem_filterMap.mpr ⟨o, ho, ?_⟩
    unfold tryC
    rw [Option.filter_eq_some_iff]
    refine ⟨hc, ?_⟩
    unfold goodC
    rw [List.all_eq_true]
    intro w hw
    rw [decide_eq_true_eq, dot_V h (H.len w hw) q1, q3]
    exact hg w hw
  obtain ⟨i, hi⟩ := List.getElem?_of_mem ha
  obtain ⟨j, hj⟩ := List.getElem?_of_mem hb
  rcases h with rfl | rfl
  · exact put i a a hi (by unfold mates; simp) ha (by simpa using hne) (by simpa using hg)
  · have hne' : (Co.cross (toV a) (toV b)).b ≠ 0 := by simpa using hne
    rcases Nat.lt_trichotomy i j with hij | hij | hij
    · have e := turn_cross (toV a) (toV b) hne'
      have hne2 : (Co.cross (toV b) (toV a)).b ≠ 0 := by unfold Co.cross at *; simp only at *; grind
      obtain ⟨c, hc, q⟩ := put j b a hj (by unfold mates; rw [if_pos rfl]; exact List.mem_take_iff_getElem.mpr (by obtain ⟨z1, z2⟩ := List.getElem?_eq_some_iff.mp hi; exact ⟨i, by omega, z2⟩)) ha (by simpa using hne2) (by simpa [e] using hg)
      exact ⟨c, hc, by simpa [e] using q⟩
    · subst hij
      rw [hi] at hj; cases hj
      exact absurd (by unfold Co.cross; simp only; grind) hne'
    · exact put i a b hi (by unfold mates; rw [if_pos rfl]; exact List.mem_take_iff_getElem.mpr (by obtain ⟨z1, z2⟩ := List.getElem?_eq_some_iff.mp hj; exact ⟨j, by omega, z2⟩)) hb (by simpa using hne) (by simpa using hg)
/-! the mean -/
def addF (n : Nat) (F p : List Int) : List Int := ((F.dropLast.zip p.dropLast).map fun z => z.1 * p.getD (n - 1) 0 + z.2 * F.getD (n - 1) 0) ++ [F.getD (n - 1) 0 * p.getD (n - 1) 0]
def lastTimes (n : Nat) (F : List Int) (m : Int) : List Int := F.dropLast ++ [F.getD (n - 1) 0 * m]
def meanL (n : Nat) (cs : List (List Int)) : List Int := lastTimes n (cs.tail.foldl (addF n) (cs.headD [])) (cs.length : Nat)
def addV (F p : Co.V) : Co.V := ⟨F.x * p.b + p.x * F.b, F.y * p.b + p.y * F.b, F.b * p.b⟩
theorem add_V {n : Nat} (h : Two n) {F p : List Int} (hF : F.length = n) (hp : p.length = n) : (addF n F p).length = n ∧ toV (addF n F p) = addV (toV F) (toV p) := by
  rcases two_rows h hF with ⟨rfl, a, b, rfl⟩ | ⟨rfl, a, b, c, rfl⟩
  · match p, hp with
    | [x, y], _ => simp [addF, toV, addV]
  · match p, hp with
    | [x, y, z], _ => simp [addF, toV, addV]
theorem times_V {n : Nat} (h : Two n) {F : List Int} {m : Int} (hF : F.length = n) : (lastTimes n F m).length = n ∧ toV (lastTimes n F m) = ⟨(toV F).x, (toV F).y, (toV F).b * m⟩ := by
  rcases two_rows h hF with ⟨rfl, a, b, rfl⟩ | ⟨rfl, a, b, c, rfl⟩ <;> simp [lastTimes, toV]
/-- what a wall tells of a sum of so many points -/
def tell (s F : Co.V) (j : Int) : Int := s.x * F.x + s.y * F.y + s.b * F.b * j
theorem tell_add (s F p : Co.V) (j : Int) : tell s (addV F p) (j + 1) = p.b * tell s F j + F.b * Co.dt s p := by
  unfold tell addV Co.dt; grind
theorem fold_V {n : Nat} (h : Two n) : ∀ (cs : List (List Int)) (F : List Int) (j : Nat), F.length = n → 1 ≤ (toV F).b → (∀ x ∈ F, x.natAbs < 2 ^ (50 * j)) → 1 ≤ j → (∀ c ∈ cs, c.length = n ∧ 1 ≤ (toV c).b ∧ ∀ x ∈ c, x.natAbs ≤ 2 ^ 42) →
    (cs.foldl (addF n) F).length = n ∧ 1 ≤ (toV (cs.foldl (addF n) F)).b ∧ (∀ x ∈ cs.foldl (addF n) F, x.natAbs < 2 ^ (50 * (j + cs.length))) ∧
    ∀ s : Co.V, 0 ≤ tell s (toV F) j → (∀ c ∈ cs, 0 ≤ Co.dt s (toV c)) → 0 ≤ tell s (toV (cs.foldl (addF n) F)) ((j + cs.length : Nat) : Int) ∧ ((0 < tell s (toV F) j ∨ ∃ c ∈ cs, 0 < Co.dt s (toV c)) → 0 < tell s (toV (cs.foldl (addF n) F)) ((j + cs.length : Nat) : Int))
  | [], F, j, hF, hb, hx, _, _ => ⟨hF, hb, hx, fun s h0 _ => ⟨h0, fun hh => by rcases hh with hh | ⟨c, hc, _⟩; exact hh; simp at hc⟩⟩
  | p :: cs, F, j, hF, hb, hx, hj, hcs => by
    obtain ⟨p1, p2, p3⟩ := hcs p (by simp)
    obtain ⟨a1, a2⟩ := add_V h hF p1
    have b1 : 1 ≤ (toV (addF n F p)).b := by
      rw [a2]; show 1 ≤ (toV F).b * (toV p).b
      have := Int.mul_pos (show 0 < (toV F).b by omega) (show 0 < (toV p).b by omega)
      omega
    have bits : ∀ x ∈ addF n F p, x.natAbs < 2 ^ (50 * (j + 1)) := by
      have e50 : (2 : Nat) ^ (50 * (j + 1)) = 2 ^ (50 * j) * 2 ^ 50 := by rw [← Nat.pow_add]; congr 1
      have pr : ∀ u v : Int, u.natAbs < 2 ^ (50 * j) → v.natAbs ≤ 2 ^ 42 → (u * v).natAbs ≤ 2 ^ (50 * j) * 2 ^ 42 := fun u v h1 h2 => by
        rw [Int.natAbs_mul]; exact Nat.mul_le_mul (Nat.le_of_lt h1) h2
      have pos : 0 < (2 : Nat) ^ (50 * j) := Nat.pow_pos (by decide)
      intro x hx'
      rw [e50]
      unfold addF at hx'
      rcases List.mem_append.mp hx' with q | q
      · obtain ⟨z, hz, rfl⟩ := List.mem_map.mp q
        have m1 := (List.dropLast_sublist F).subset (List.of_mem_zip hz).1
        have m2 := (List.dropLast_sublist p).subset (List.of_mem_zip hz).2
        have l1 : (p.getD (n - 1) 0).natAbs ≤ 2 ^ 42 := by
          rw [List.getD_eq_getElem?_getD, List.getElem?_eq_getElem (by rcases h with rfl | rfl <;> omega)]
          exact p3 _ (List.getElem_mem _)
        have l2 : (F.getD (n - 1) 0).natAbs < 2 ^ (50 * j) := by
          rw [List.getD_eq_getElem?_getD, List.getElem?_eq_getElem (by rcases h with rfl | rfl <;> omega)]
          exact hx _ (List.getElem_mem _)
        have t1 := pr _ _ (hx _ m1) l1
        have t2 := pr _ _ l2 (p3 _ m2)
        rw [Int.mul_comm (F.getD (n - 1) 0)] at t2
        have t3 := Int.natAbs_add_le (z.1 * p.getD (n - 1) 0) (z.2 * F.getD (n - 1) 0)
        have t4 : 2 ^ (50 * j) * 2 ^ 42 + 2 ^ (50 * j) * 2 ^ 42 < 2 ^ (50 * j) * 2 ^ 50 := by rw [← Nat.mul_add]; exact Nat.mul_lt_mul_of_pos_left (by decide) pos
        omega
      · simp at q; subst q
        have l1 : (p.getD (n - 1) 0).natAbs ≤ 2 ^ 42 := by
          rw [List.getD_eq_getElem?_getD, List.getElem?_eq_getElem (by rcases h with rfl | rfl <;> omega)]
          exact p3 _ (List.getElem_mem _)
        have l2 : (F.getD (n - 1) 0).natAbs < 2 ^ (50 * j) := by
          rw [List.getD_eq_getElem?_getD, List.getElem?_eq_getElem (by rcases h with rfl | rfl <;> omega)]
          exact hx _ (List.getElem_mem _)
        have t1 := pr _ _ l2 l1
        have t4 : 2 ^ (50 * j) * 2 ^ 42 < 2 ^ (50 * j) * 2 ^ 50 := Nat.mul_lt_mul_of_pos_left (by decide) pos
        simp only [List.getD_eq_getElem?_getD] at *
        omega
    obtain ⟨c1, c2, c3, c4⟩ := fold_V h cs (addF n F p) (j + 1) a1 b1 bits (by omega) (fun c hc => hcs c (by simp [hc]))
    have ej : j + 1 + cs.length = j + (p :: cs).length := by simp; omega
    rw [ej] at c3 c4
    refine ⟨c1, c2, c3, fun s h0 hc => ?_⟩
    have d0 := hc p (by simp)
    have q1 := Co.mul_nn (show 0 ≤ (toV p).b by omega) h0
    have q2 := Co.mul_nn (show 0 ≤ (toV F).b by omega) d0
    have e1 : tell s (toV (addF n F p)) ((j + 1 : Nat) : Int) = (toV p).b * tell s (toV F) j + (toV F).b * Co.dt s (toV p) := by
      rw [a2, show ((j + 1 : Nat) : Int) = (j : Int) + 1 by omega]; exact tell_add s _ _ _
    obtain ⟨r1, r2⟩ := c4 s (by rw [e1]; omega) (fun c hc' => hc c (by simp [hc']))
    refine ⟨r1, fun hh => r2 ?_⟩
    rcases hh with hh | ⟨c, hc', hh⟩
    · left
      rw [e1]
      have := Int.mul_pos (show 0 < (toV p).b by omega) hh
      omega
    · rcases List.mem_cons.mp hc' with e | hc'
      · left
        subst e
        rw [e1]
        have := Int.mul_pos (show 0 < (toV F).b by omega) hh
        omega
      · exact .inr ⟨c, hc', hh⟩
theorem mean_V {n : Nat} (h : Two n) {cs : List (List Int)} (hne : cs ≠ []) (hl : cs.length ≤ 400) (hcs : ∀ c ∈ cs, c.length = n ∧ 1 ≤ c.getD (n - 1) 0 ∧ ∀ x ∈ c, x.natAbs ≤ 2 ^ 42) :
    (meanL n cs).length = n ∧ 1 ≤ (meanL n cs).getD (n - 1) 0 ∧ (∀ x ∈ meanL n cs, x.natAbs < 2 ^ 30000) ∧
    ∀ s : List Int, s.length = n → (∀ c ∈ cs, 0 ≤ dotn n s c) → 0 ≤ dotn n s (meanL n cs) ∧ ((∃ c ∈ cs, 0 < dotn n s c) → 0 < dotn n s (meanL n cs)) := by
  obtain ⟨c0, cs, rfl⟩ : ∃ c r, cs = c :: r := by cases cs with | nil => exact absurd rfl hne | cons c r => exact ⟨c, r, rfl⟩
  have hb : ∀ c ∈ c0 :: cs, 1 ≤ (toV c).b := fun c hc => by rw [← last_V h (hcs c hc).1]; exact (hcs c hc).2.1
  have h0 := hcs c0 (by simp)
  obtain ⟨f1, f2, f3, f4⟩ := fold_V h cs c0 1 h0.1 (hb c0 (by simp)) (fun x hx => Nat.lt_of_le_of_lt (h0.2.2 x hx) (by decide)) (Nat.le_refl _) (fun c hc => ⟨(hcs c (by simp [hc])).1, hb c (by simp [hc]), (hcs c (by simp [hc])).2.2⟩)
  have em : meanL n (c0 :: cs) = lastTimes n (cs.foldl (addF n) c0) ((cs.length + 1 : Nat) : Int) := rfl
  generalize hF : cs.foldl (addF n) c0 = F at *
  obtain ⟨t1, t2⟩ := times_V (m := ((cs.length + 1 : Nat) : Int)) h f1
  rw [em]
  simp only [List.length_cons] at hl
  refine ⟨t1, ?_, fun x hx => ?_, fun s hs hc => ?_⟩
  · rw [last_V h t1, t2]
    show 1 ≤ (toV F).b * ((cs.length + 1 : Nat) : Int)
    have := Int.mul_pos (show 0 < (toV F).b by omega) (show 0 < ((cs.length + 1 : Nat) : Int) by omega)
    omega
  · have hle : 2 ^ (50 * (1 + cs.length)) ≤ 2 ^ 20000 := Nat.pow_le_pow_right (by decide) (by omega)
    have big : ∀ y ∈ F, y.natAbs < 2 ^ 20000 := fun y hy => Nat.lt_of_lt_of_le (f3 y hy) hle
    unfold lastTimes at hx
    rcases List.mem_append.mp hx with q | q
    · exact Nat.lt_of_lt_of_le (big x ((List.dropLast_sublist F).subset q)) (Nat.pow_le_pow_right (by decide) (by decide))
    · simp only [List.mem_singleton] at q; subst q
      have l2 : (F.getD (n - 1) 0).natAbs < 2 ^ 20000 := by
        rw [List.getD_eq_getElem?_getD, List.getElem?_eq_getElem (by rcases h with rfl | rfl <;> omega)]
        exact big _ (List.getElem_mem _)
      rw [Int.natAbs_mul, Int.natAbs_natCast]
      have e : (2 : Nat) ^ 30000 = 2 ^ 20000 * 2 ^ 10000 := by rw [← Nat.pow_add]
      rw [e]
      exact Nat.mul_lt_mul_of_lt_of_le l2 (Nat.le_trans (show cs.length + 1 ≤ 2 ^ 10 by omega) (Nat.pow_le_pow_right (by decide) (by decide))) (Nat.pow_pos (by decide))
  · have e0 : ∀ c ∈ c0 :: cs, dotn n s c = Co.dt (toV s) (toV c) := fun c hc' => dot_V h hs (hcs c hc').1
    have e1 : dotn n s (lastTimes n F ((cs.length + 1 : Nat) : Int)) = tell (toV s) (toV F) ((1 + cs.length : Nat) : Int) := by
      rw [dot_V h hs t1, t2, show 1 + cs.length = cs.length + 1 by omega]
      unfold Co.dt tell; simp only; rw [Int.mul_assoc]
    have et : tell (toV s) (toV c0) ((1 : Nat) : Int) = dotn n s c0 := by
      rw [e0 c0 (by simp)]; unfold tell Co.dt; simp
    obtain ⟨r1, r2⟩ := f4 (toV s) (by rw [et]; exact hc c0 (by simp)) (fun c hc' => by rw [← e0 c (by simp [hc'])]; exact hc c (by simp [hc']))
    rw [e1]
    refine ⟨r1, fun ⟨c, hc', hh⟩ => r2 ?_⟩
    rcases List.mem_cons.mp hc' with e | hc'
    · subst e; left; rw [et]; exact hh
    · exact .inr ⟨c, hc', by rw [← e0 c (by simp [hc'])]; exact hh⟩
/-! what corners tell -/
def boxL (n : Nat) (k : Int) : List (List Int) := if n = 2 then [[-1, k], [1, k]] else [[-1, 0, k], [1, 0, k], [0, -1, k], [0, 1, k]]
def brokenB (n : Nat) (a b : List (List Int)) (g : List Int) : Bool :=
  !decide (cornersL n (a ++ b ++ [negL g]) = []) && ((b ++ [negL g]).all fun s => decide (0 < dotn n s (meanL n (cornersL n (a ++ b ++ [negL g])))))
theorem corners_few {n : Nat} {ws : List (List Int)} (h : ws.length ≤ 20) : (cornersL n ws).length ≤ 400 := by
  have step : ∀ i one, (stepC n ws i one).length ≤ 20 := fun i one => by
    unfold stepC
    refine Nat.le_trans (List.length_filterMap_le ..) ?_
    unfold mates
    split
    · rw [List.length_take]; omega
    · simp
  have all : ∀ l : List (List Int × Nat), (l.flatMap fun p => stepC n ws p.2 p.1).length ≤ 20 * l.length := fun l => by
    induction l with
    | nil => simp
    | cons p l ih =>
      rw [List.flatMap_cons, List.length_append, List.length_cons]
      have := step p.2 p.1; omega
  have := all ws.zipIdx
  rw [List.length_zipIdx] at this
  unfold cornersL; omega
theorem vertexL {n : Nat} (h : Two n) {ws : List (List Int)} (H : WsOk n ws) {k : Int} (hbox : ∀ w ∈ boxL n k, w ∈ ws) {p s : List Int} (hp : p.length = n) (hpb : 1 ≤ p.getD (n - 1) 0) (hk : ∀ w ∈ ws, 0 ≤ dotn n w p) (hs : s.length = n) (hsp : 0 < dotn n s p) :
    ∃ c ∈ cornersL n ws, 0 < dotn n s c := by
  have hk' : ∀ v ∈ ws.map toV, 0 ≤ Co.dt v (toV p) := fun v hv => by
    obtain ⟨w, hw, rfl⟩ := List.mem_map.mp hv
    rw [← dot_V h (H.len w hw) hp]; exact hk w hw
  have hb' : 0 < (toV p).b := by rw [← last_V h hp]; omega
  have hs' : 0 < Co.dt (toV s) (toV p) := by rw [← dot_V h hs hp]; exact hsp
  have fin : ∀ a ∈ ws, ∀ b ∈ ws, (if n = 2 then Co.up (toV a) else Co.cross (toV a) (toV b)).b ≠ 0 → (∀ w ∈ ws, 0 ≤ Co.dt (toV w) (Co.turn (if n = 2 then Co.up (toV a) else Co.cross (toV a) (toV b)))) → 0 < Co.dt (toV s) (Co.turn (if n = 2 then Co.up (toV a) else Co.cross (toV a) (toV b))) →
      ∃ c ∈ cornersL n ws, 0 < dotn n s c := fun a ha b hb h1 h2 h3 => by
    obtain ⟨c, hc, q⟩ := in_corners h H ha hb h1 h2
    exact ⟨c, hc, by rw [dot_V h hs (corner_of h H hc).1, q]; exact h3⟩
  rcases h with rfl | rfl
  · have m1 : (⟨-1, 0, k⟩ : Co.V) ∈ ws.map toV := List.mem_map.mpr ⟨[-1, k], hbox _ (by simp [boxL]), rfl⟩
    have m2 : (⟨1, 0, k⟩ : Co.V) ∈ ws.map toV := List.mem_map.mpr ⟨[1, k], hbox _ (by simp [boxL]), rfl⟩
    have flat : ∀ r : List Int, r.length = 2 → (toV r).y = 0 := fun r hr => by
      match r, hr with
      | [x, y], _ => rfl
    obtain ⟨w, hw, g1, g2, g3⟩ := Co.vertex2 m1 m2 (fun v hv => by obtain ⟨r, hr, rfl⟩ := List.mem_map.mp hv; exact flat r (H.len r hr)) (flat s hs) hk' hb' hs'
    obtain ⟨a, ha, rfl⟩ := List.mem_map.mp hw
    exact fin a ha a ha (by simpa [Co.up] using g1) (fun w hw => by simpa using g2 (toV w) (List.mem_map.mpr ⟨w, hw, rfl⟩)) (by simpa using g3)
  · have mm : ∀ r ∈ boxL 3 k, toV r ∈ ws.map toV := fun r hr => List.mem_map.mpr ⟨r, hbox r hr, rfl⟩
    have bx : Co.Boxed (ws.map toV) := ⟨k, mm [-1, 0, k] (by simp [boxL]), mm [1, 0, k] (by simp [boxL]), mm [0, -1, k] (by simp [boxL]), mm [0, 1, k] (by simp [boxL])⟩
    obtain ⟨w, hw, u, hu, g1, g2, g3⟩ := Co.vertex bx hk' hb' hs'
    obtain ⟨a, ha, rfl⟩ := List.mem_map.mp hw
    obtain ⟨b, hb, rfl⟩ := List.mem_map.mp hu
    exact fin a ha b hb (by simpa using g1) (fun w hw => by simpa using g2 (toV w) (List.mem_map.mpr ⟨w, hw, rfl⟩)) (by simpa using g3)
theorem broken_iff {n : Nat} (h : Two n) {a b : List (List Int)} {g : List Int} {k : Int} (H : WsOk n (a ++ b ++ [negL g])) (hbox : ∀ w ∈ boxL n k, w ∈ a) : brokenB n a b g = !fol n a b g := by
  have hcs := fun c (hc : c ∈ cornersL n (a ++ b ++ [negL g])) => corner_of h H hc
  have hg : (negL g).length = n := H.len _ (by simp)
  have key : brokenB n a b g = true ↔ ¬ Follows n a b g := by
    unfold brokenB
    rw [Bool.and_eq_true, Bool.not_eq_true', decide_eq_false_iff_not, List.all_eq_true]
    constructor
    · rintro ⟨hne, hall⟩ hf
      obtain ⟨m1, m2, _, m4⟩ := mean_V h hne (corners_few H.few) (fun c hc => ⟨(hcs c hc).1, (hcs c hc).2.1, (hcs c hc).2.2.2⟩)
      have hp : Keeps n a b (meanL n (cornersL n (a ++ b ++ [negL g]))) := by
        refine ⟨m1, m2, fun w hw => (m4 w (H.len w (by simp [hw])) (fun c hc => (hcs c hc).2.2.1 w (by simp [hw]))).1, fun w hw => ?_⟩
        simpa using hall w (by simp [hw])
      have h1 := hf _ hp
      have h2 : 0 < dotn n (negL g) (meanL n (cornersL n (a ++ b ++ [negL g]))) := by simpa using hall (negL g) (by simp)
      rw [dot_neg] at h2; omega
    · intro hf
      have hf' : ∃ p, Keeps n a b p ∧ dotn n g p < 0 := by
        refine Classical.byContradiction fun hno => hf fun p hp => ?_
        rcases Int.lt_or_le (dotn n g p) 0 with q | q
        · exact absurd ⟨p, hp, q⟩ hno
        · exact q
      obtain ⟨p, ⟨hp1, hp2, hp3, hp4⟩, hpg⟩ := hf'
      have hk : ∀ w ∈ a ++ b ++ [negL g], 0 ≤ dotn n w p := fun w hw => by
        simp only [List.mem_append, List.mem_singleton] at hw
        rcases hw with (hw | hw) | hw
        · exact hp3 w hw
        · exact Int.le_of_lt (hp4 w hw)
        · subst hw; rw [dot_neg]; omega
      have hbox' : ∀ w ∈ boxL n k, w ∈ a ++ b ++ [negL g] := fun w hw => by simp [hbox w hw]
      have vx : ∀ s ∈ b ++ [negL g], ∃ c ∈ cornersL n (a ++ b ++ [negL g]), 0 < dotn n s c := fun s hs => by
        have hs2 : s ∈ a ++ b ++ [negL g] := by
          simp only [List.mem_append] at hs ⊢
          rcases hs with hs | hs
          · exact .inl (.inr hs)
          · exact .inr hs
        refine vertexL h H hbox' hp1 hp2 hk (H.len s hs2) ?_
        rcases List.mem_append.mp hs with hs | hs
        · exact hp4 s hs
        · simp at hs; subst hs; rw [dot_neg]; omega
      have hne : cornersL n (a ++ b ++ [negL g]) ≠ [] := by
        obtain ⟨c, hc, _⟩ := vx (negL g) (by simp)
        intro e; rw [e] at hc; simp at hc
      refine ⟨hne, fun s hs => ?_⟩
      obtain ⟨m1, m2, _, m4⟩ := mean_V h hne (corners_few H.few) (fun c hc => ⟨(hcs c hc).1, (hcs c hc).2.1, (hcs c hc).2.2.2⟩)
      have hs2 : s ∈ a ++ b ++ [negL g] := by
        simp only [List.mem_append] at hs ⊢
        rcases hs with hs | hs
        · exact .inl (.inr hs)
        · exact .inr hs
      rw [decide_eq_true_eq]
      exact (m4 s (H.len s hs2) (fun c hc => (hcs c hc).2.2.1 s hs2)).2 (vx s hs)
  by_cases hf : Follows n a b g
  · have h1 : fol n a b g = true := fol_true.mpr hf
    rw [h1]
    cases e : brokenB n a b g with
    | false => rfl
    | true => exact absurd hf (key.mp e)
  · have h1 : fol n a b g = false := by
      cases e : fol n a b g with
      | false => rfl
      | true => exact absurd (fol_true.mp e) hf
    rw [h1, key.mpr hf]; rfl

end K8

set_option Elab.async false
set_option maxRecDepth 100000
set_option linter.all false
set_option maxHeartbeats 1000000
/-! the law itself, called by none but the claim's caller: nothing is under way of being written out then -/
namespace Dl
open PySem PySem.Spec PyProof.Rows L2
section
variable {P : Program} {w : World} {K : Frag} {mg mb : Str → Option Value} {st : Stmt} {fa a : Addr} {fd : FuncData} {N : List Str} {x qual : Str} {k : Nat} {s₁ : Shared} {vs : List Value} {ns : List Int}
/-- a heap less the script's list: its namespaces stand -/
theorem hid_ns {h : Heap} {H : Hp} {b : Addr} {m : Str → Option Value} (c : ∀ d, H d ≠ none → d = a) (hs : h.get? a = some { cls := .type "list", data := .seq vs.toArray }) (n : h.Ns b m) : (hidT h H).Ns b m := by
  obtain ⟨o, es, ep, g, hd, r⟩ := n
  refine ⟨o, es, ep, hidT_get g ?_, hd, r⟩
  by_cases q : H b = none
  · exact q
  · have z := c b q
    rw [z, hs] at g
    cases g
    cases hd
/-- what a call of the law at the caller's place is to come to -/
abbrev TopRuns (P : Program) (w : World) (K : Frag) (mg : Str → Option Value) (fa a : Addr) (ns : List Int) : Prop :=
  ∀ (base : Heap) (s : Shared) (H : Hp), Env0 P w K mg base callerA [] s H → SqL K H a (ns.map V.int) → codeAny (model P w) callerA (.call (.ref fa) ⟨[.ref a], []⟩) (CR CX0 [] P w H s (fun v _ => v = .bl true) E0) s
theorem top_once (KX : K.In s₁.heap) (n1 : s₁.heap.Ns mainGlobals mg) (n2 : s₁.heap.Ns builtinsNs mb) (hb : ∀ x : Str, x ≠ "__name__" → mb x = bootBuiltins x) (lim : s₁.heap.NoLimit) (hg : s₁.gens = #[])
    (hs : s₁.heap.get? a = some { cls := .type "list", data := .seq vs.toArray }) (F : TopRuns P w K mg fa a ns) {H : Hp} (only : Only H) (sq : SqL K H a (ns.map V.int)) (ok : HOk P w H s₁.heap) (c : ∀ d, H d ≠ none → d = a) (kn : H a ≠ none → K.lookup a = none) :
    codeAny (model P w) callerA (.call (.ref fa) ⟨[.ref a], []⟩) (fun r s' => r = .ok (.ret (.bool true)) ∧ OldK s₁.heap s'.heap ∧ s'.os = s₁.os ∧ AllBare s'.gens) s₁ := by
  have kin : K.In (hidT s₁.heap H) := by
    intro d o e
    refine hidT_get (KX d o e) ?_
    by_cases q : H d = none
    · exact q
    · have z := c d q
      subst z
      have := kn q
      rw [this] at e; cases e
  have lim2 : (hidT s₁.heap H).NoLimit := by
    obtain ⟨mc, g1, g2⟩ := lim
    exact ⟨mc, hid_ns c hs g1, g2⟩
  have env : Env0 P w K mg (hidT s₁.heap H) callerA [] s₁ H :=
    { frames := rfl, mod := ⟨kin, hid_ns c hs n1, ⟨mb, hid_ns c hs n2, hb⟩, lim2⟩, bs := fun d o e => of_hidT e, bsz := by rw [hidT_size]; exact Nat.le_refl _, funs := trivial, frf := fun d hd => absurd (show d ∈ ([] : List Addr) from hd) (by simp), hok := ok, bare := .of_eq hg }
  refine codeAny_mono (F _ s₁ H env sq) fun r s' hr => ?_
  match r, hr with
  | .error e, hr => exact (show False from hr).elim
  | .ok .next, hr => exact (show False from hr).elim
  | .ok .brk, hr => exact (show False from hr).elim
  | .ok .cont, hr => exact (show False from hr).elim
  | .ok (.ret u), hr =>
    obtain ⟨v, H', os, bare, un, ok', rv, q⟩ := hr
    have q2 : v = .bl true := q
    subst q2
    have q3 : u = Value.bool true := rv
    refine ⟨by rw [q3], OldK.of_keep fun d o e => ?_, os, bare⟩
    rcases only d with z | ⟨ob, xs, z⟩
    · exact un.keep d o e z (fun hm => absurd (show d ∈ ([] : List Addr) from hm) (by simp)) (by simp)
    · have g1 := (ok d _ z).1
      rw [e] at g1
      have g2 := (ok' d _ (un.frzs d ob _ z)).1
      cases g1
      exact g2
/-- the script's list either is the module's own or is known from now on -/
theorem top_call (KX : K.In s₁.heap) (n1 : s₁.heap.Ns mainGlobals mg) (n2 : s₁.heap.Ns builtinsNs mb) (hb : ∀ x : Str, x ≠ "__name__" → mb x = bootBuiltins x) (lim : s₁.heap.NoLimit) (hg : s₁.gens = #[])
    (hs : s₁.heap.get? a = some { cls := .type "list", data := .seq vs.toArray }) (hi : IntsAre vs ns) (hl : ns.length ≤ sizeLine) (F : TopRuns P w K mg fa a ns) :
    codeAny (model P w) callerA (.call (.ref fa) ⟨[.ref a], []⟩) (fun r s' => r = .ok (.ret (.bool true)) ∧ OldK s₁.heap s'.heap ∧ s'.os = s₁.os ∧ AllBare s'.gens) s₁ := by
  have rv := vals_ints hi
  have len := hi.length
  rcases e : K.lookup a with _ | o
  · let H : Hp := fun d => if d = a then some (.frz { cls := .type "list", data := .seq vs.toArray } (.lst (ns.map V.int))) else none
    have at_a : H a = some (.frz { cls := .type "list", data := .seq vs.toArray } (.lst (ns.map V.int))) := if_pos rfl
    have off : ∀ d, d ≠ a → H d = none := fun d hd => if_neg hd
    refine top_once KX n1 n2 hb lim hg hs F (H := H) (fun d => ?_) (.inl (.inr ⟨_, at_a⟩)) (fun d u z => ?_) (fun d z => ?_) (fun _ => e)
    · by_cases q : d = a
      · subst q; exact .inr ⟨_, _, at_a⟩
      · exact .inl (off d q)
    · by_cases q : d = a
      · subst q
        rw [at_a] at z; cases z
        exact ⟨hs, by rw [List.length_map]; exact hl, vs, _, rv, hs⟩
      · rw [off d q] at z; cases z
    · by_cases q : d = a
      · exact q
      · exact absurd (off d q) z
  · have g := KX a o e
    rw [hs] at g
    cases g
    exact top_once KX n1 n2 hb lim hg hs F (H := fun _ => none) (fun _ => .inl rfl) (.inr ⟨_, vs.toArray, _, e, rfl, rfl, rfl, by rw [List.size_toArray, len]; exact hl, by simpa using rv⟩) (fun d u z => nomatch z) (fun d z => absurd rfl z) (fun z => absurd rfl z)
/-- a def without defaults that the caller calls: its body, with nothing under way -/
theorem fn_top (F : Fun K x qual st fa fd) (S : FnScope N ["_law_script"] (defScope st)) (hr : Room (k + 1) callerA) (hbind : ∀ (s : Shared) (u : Value), BindsTo s fd ⟨[u], []⟩ [("_law_script", u)])
    (body : ∀ (base : Heap) (cdv : Value) (s : Shared) (H : Hp), Room k (callerA.deeper (envOfC qual (defScope st) s.heap.objs.size fa cdv)) → SqL K H a (ns.map V.int) →
      ∃ t, PSs (cxOf CX0 P w K mg base N qual (defScope st) fa cdv callerA [] s H E0).nox (defBody st) t ∧ t { nx := fun _ _ => False, rt := fun v _ => v = .bl true } (start N [.ref a]) H) : TopRuns P w K mg fa a ns := by
  intro base s H env sq
  obtain ⟨oc, od, kV, doc, pm, an, cdv, ct, osl, rfl, lk, hcd⟩ := F.ex
  have kin : K.In s.heap := env.mod.kin.keeps fun d o e => (env.bs d o e).1
  have lim : s.heap.NoLimit := env.mod.nolimit.keeps fun d o e => (env.bs d o e).1
  have lp : (([("_law_script", Value.ref a)] : List (Str × Value))) = (["_law_script"] : List Str).zip [Value.ref a] := rfl
  have kinds : ∀ y ∈ (["_law_script"] : List Str).zip [Value.ref a], (defScope st).names.lookup y.1 = some .local ∨ ((defScope st).names.lookup y.1 = some .cell ∧ ((cellsFrom (s.heap.objs.size + 1) (defScope st).names []).lookup y.1).isSome = true) := by
    rintro ⟨nm, v⟩ hy
    rcases S.par nm (List.of_mem_zip hy).1 with q | q
    · exact .inl q
    · exact .inr ⟨q, PySem.W.cellsFrom_some _ _ _ (.inl q)⟩
  refine codeAny_call_function hr.depth (kin _ _ lk) rfl S.co S.gen rfl (PySem.W.codeRec_of kin hcd) (hbind s (.ref a) _ _ _ _ ?_)
  rw [lp]
  refine wpAny_newFunctionEnv_cells S.kind kinds fun en he s1 xi => ?_
  subst he
  refine ⟨lim.keeps xi.toInCall.keep, codeAny_func ?_⟩
  obtain ⟨t, ht, hq⟩ := body base cdv s H (hr.deeper _) sq
  have I : Inv (cxOf CX0 P w K mg base N qual (defScope st) fa cdv callerA [] s H E0) [] (start N [.ref a]) H s1 := inv_start S hr.hd env rfl (.cons rfl .nil) xi
  refine wpAny_mono (ht.nox.run [] s1 (start N [.ref a]) H _ I hq) (fun fl s' hs => ?_) fun e s' hs => hs
  cases fl with
  | ret u =>
    obtain ⟨v, σ', H', J, rv, q⟩ := hs
    exact ⟨v, H', J.os, J.bare, J.base, J.hok, rv, q⟩
  | next =>
    obtain ⟨_, _, _, q⟩ := hs
    exact q.elim
  | brk =>
    obtain ⟨_, _, _, q⟩ := hs
    exact q.elim
  | cont =>
    obtain ⟨_, _, _, q⟩ := hs
    exact q.elim
end
/-- the walk of a law whose def is looked at where it is called -/
theorem walk_top {l : PySem.W.OpenLaw} {q : Program} {loose : List Str} {XP : (Str → Option Value) → Heap → Prop} {YP : World → Heap → Prop} {d : DefRec} {K : Params → Frag} (hn : l.most = some 63) (hdf : d.params.defaults = [])
    (hY : ∀ (w : World) (h : Heap), YP w h → (K w.params).In h)
    (F : ∀ (w : World) (mg : Str → Option Value) (fa : Addr) (h : Heap), (K w.params).In h → h.Ns mainGlobals mg → mg d.name = some (.ref fa) → ∀ (a : Addr) (ns : List Int), ns.length ≤ 63 → TopRuns l.prog w (K w.params) mg fa a ns) :
    PySem.W.WalkO q loose XP YP l.row.toRowW d [] (fun f vs => PySem.call f vs) := by
  refine Att.attach_call hn hdf fun w s₀ s₁ mg mb fa o pm cd doc a vs ns G Y ho hd hcd hmg hobj hints hlen hg => ?_
  have kin := hY w _ Y
  exact top_call kin G.T.g G.T.b G.T.builtins G.T.nolimit hg hobj hints (Nat.le_trans hlen (by decide)) (F w mg fa _ kin G.T.g hmg a ns hlen)
end Dl


set_option Elab.async false
set_option maxRecDepth 100000
set_option linter.all false
set_option maxHeartbeats 1000000
/-! repr of data, where nothing is under way of being written out -/
namespace Dl
open PySem PySem.Spec PyProof.Rows L2
section
variable {X : Cx} {pins : List (Addr × Obj)} {σ : L2.St} {G H : Hp} {s : Shared}
mutual
theorem reads_of (J : Inv X pins σ H s) (e : Ex G H) : ∀ (d : D) {v : V} {u : Value}, Rp X.K G d v → RelV v u → ∃ as, Reads s.heap u d as
  | .none, v, u, h, r => by
    unfold Rp at h; subst h
    cases (show u = Value.none from r)
    exact ⟨_, .none⟩
  | .bool b, v, u, h, r => by
    unfold Rp at h; subst h
    cases (show u = Value.bool b from r)
    exact ⟨_, .bool b⟩
  | .int i, v, u, h, r => by
    unfold Rp at h; subst h
    obtain ⟨t, rfl⟩ := (show ∃ t, u = Value.int i t from r)
    exact ⟨_, .int i t⟩
  | .str x, v, u, h, r => by
    unfold Rp at h; subst h
    obtain ⟨t, rfl⟩ := (show ∃ t, u = Value.str x t from r)
    exact ⟨_, .str x t⟩
  | .list ds, v, u, h, r => by
    unfold Rp at h
    obtain ⟨a, xs, rfl, h1, _, h3⟩ := h
    cases (show u = Value.ref a from r)
    obtain ⟨its, rv, hl, _⟩ := J.list (SqL.of (e _ _ h1))
    obtain ⟨o, g1, g2, n, g3⟩ := hl.isList
    obtain ⟨as, ra⟩ := readsA_of J e ds h3 rv
    exact ⟨_, .list g1 g2 g3 ra⟩
  | .tuple ds, v, u, h, r => by
    unfold Rp at h
    obtain ⟨a, xs, rfl, h1, _, h3⟩ := h
    cases (show u = Value.ref a from r)
    obtain ⟨its, rv, ⟨o, g1, g2, n, g3⟩, _⟩ := J.tuple (ex_t e h1)
    obtain ⟨as, ra⟩ := readsA_of J e ds h3 rv
    exact ⟨_, .tuple g1 g2 g3 ra⟩
  | .dict _, _, _, h, _ => by unfold Rp at h; exact h.elim
theorem readsA_of (J : Inv X pins σ H s) (e : Ex G H) : ∀ (ds : List D) {vs : List V} {us : List Value}, RpA X.K G ds vs → Vals vs us → ∃ as, ReadsAll s.heap us ds as
  | [], _, us, h, r => by
    unfold RpA at h; subst h
    cases r
    exact ⟨_, .nil⟩
  | d :: ds, _, us, h, r => by
    obtain ⟨v, ws, rfl, h1, h2⟩ := h.inv
    cases r with
    | cons r1 r2 =>
      obtain ⟨as, a1⟩ := reads_of J e d h1 r1
      obtain ⟨bs, a2⟩ := readsA_of J e ds h2 r2
      exact ⟨_, .cons a1 a2⟩
end
/-- data that can be written out -/
structure Shows (l : List D) : Prop where
  ok : (PyData.tuple l).showable = true
  nd : (PyData.tuple l).hasDict = false
  dp : (PyData.tuple l).depth ≤ 20
  sz : (PyData.tuple l).shown.length ≤ sizeLine
def rReprT (K : Frag) : List V → Hp → VK → Prop := fun xs H Q => ∃ (l : List D) (v : V) (G : Hp), xs = [v] ∧ Ex G H ∧ Rp K G (.tuple l) v ∧ Shows l ∧ Q (.str (PyData.tuple l).shown) H
theorem cr_reprT (hg : X.A.guards = some []) (hu : X.A.units + 60 < cLine) : CallR X (.builtin "repr") (rReprT X.K) := by
  intro pins s σ H xs us Q J r h
  obtain ⟨l, v, G, rfl, ex, hv, sh, q⟩ := h
  obtain ⟨u, rfl, e⟩ := vals1 r
  obtain ⟨as, rd⟩ := reads_of J ex _ hv e
  have hv' := hv
  unfold Rp at hv'
  obtain ⟨a, xs, rfl, _⟩ := hv'
  cases (show u = Value.ref a from e)
  have hd := sh.dp
  exact repr_of_reads' rd sh.ok (PyData.noDict_hsm sh.nd) hg (by omega) (fun _ _ z => z) (fun h' u tk hk => ⟨.str _, H, J.kept hk, ⟨u, rfl⟩, q⟩) sh.sz
end
section
variable {I : Inf} {c : Ct} {ds : List SD} {e : Expr} {pos p : Pos}
theorem ev_reprT {l : List D} (hgd : I.gd = true) (hk : 16 * I.k + 200 ≥ 60) (hg : I.sc.names.lookup ("repr" : Str) = some .globalImplicit) (hm : I.mg "repr" = none) (sh : Shows l) (ha : EvE I c e ds (· = .tuple l)) (hs : ∀ X, Fits I X → starEach [e] X.env = (false, eval e X.env) :: starEach [] X.env := by intros; rfl) :
    EvE I c (.Call (.Name "repr" p) [e] [] pos) ds (· = .str (PyData.tuple l).shown) :=
  ev_callB (id := "repr") (r := rReprT I.K) (fun X F => by have := cr_reprT (X := X) (F.gd hgd) (by have := F.room.units; have := F.room.un; omega); rw [F.K] at this; exact this) hg hm (by decide +kernel) (ea_1 ha hs) (he := hs) (fun l' ⟨d, hl, hd⟩ σ G H vs s r Q k => by
    subst hl; subst hd
    obtain ⟨v, rfl, r1⟩ := rpa1 r
    exact ⟨l, v, G, rfl, s.ex, r1, sh, k.now s .str rfl⟩)
end
end Dl


set_option Elab.async false
set_option maxRecDepth 100000
set_option linter.all false
set_option maxHeartbeats 1000000
/-! rows of not too large ints are written out -/
namespace Dl
open PySem PySem.Spec PyProof.Rows L2
def S60 (r : List Int) : Prop := ∀ x ∈ r, x.natAbs < 10 ^ 60
theorem log_60 {i : Int} (h : i.natAbs < 10 ^ 60) : i.natAbs.log2 < 200 := by
  by_cases z : i.natAbs = 0
  · rw [z]; decide
  · rw [Nat.log2_lt z]; exact Nat.lt_of_lt_of_le h (by decide)
theorem len_60 {i : Int} (h : i.natAbs < 10 ^ 60) : (PyData.shown (.int i)).length ≤ 64 := by
  have h1 := int_text_length_le10 (k := 60) (by decide) h
  have e : (PyData.shown (.int i)).length = (Str.ofString (toString i)).length := rfl
  rw [e, PySem.ofString_length]; omega
theorem row_facts : ∀ {r : List Int}, S60 r → PyData.leavesShortAll 64 (r.map PyData.int) = true ∧ PyData.weightAll (r.map PyData.int) ≤ 202 * r.length ∧ PyData.showableAll (r.map PyData.int) = true ∧ PyData.hasDictAll (r.map PyData.int) = false ∧ PyData.depthAll (r.map PyData.int) = 0
  | [], _ => by simp [PyData.leavesShortAll, PyData.weightAll, PyData.showableAll, PyData.hasDictAll, PyData.depthAll]
  | x :: r, h => by
    have hx := h x (by simp)
    obtain ⟨h1, h2, h3, h4, h5⟩ := row_facts (r := r) (fun y hy => h y (by simp [hy]))
    have hl := log_60 hx
    have hw : PyData.weight (.int x) ≤ 200 := by simp only [PyData.weight]; split <;> omega
    refine ⟨?_, ?_, ?_, ?_, ?_⟩
    · simp only [List.map_cons, PyData.leavesShortAll, PyData.leavesShort, h1, Bool.and_true, decide_eq_true_eq]; exact len_60 hx
    · simp only [List.map_cons, PyData.weightAll, List.length_cons]; omega
    · simp only [List.map_cons, PyData.showableAll, PyData.showable, h3, Bool.and_true, decide_eq_true_eq]; omega
    · simp only [List.map_cons, PyData.hasDictAll, PyData.hasDict, h4, Bool.or_false]
    · simp only [List.map_cons, PyData.depthAll, PyData.depth, h5]; rfl
/-- what a paper is made of: words, ints, rows of ints -/
def PartOk : D → Prop
  | .str x => x.length ≤ 20 ∧ (x.cps.toList.all fun c => decide (c < 16 ^ 8)) = true ∧ x.cps.size ≤ 20
  | .int i => i.natAbs < 10 ^ 60
  | .tuple l => ∃ r : List Int, l = r.map PyData.int ∧ S60 r ∧ r.length ≤ 100
  | _ => False
theorem part_facts : ∀ {d : D}, PartOk d → PyData.leavesShort 64 d = true ∧ PyData.weight d ≤ 20200 ∧ PyData.showable d = true ∧ PyData.hasDict d = false ∧ PyData.depth d ≤ 2
  | .str x, h => by
    obtain ⟨h1, h2, h3⟩ := h
    exact ⟨by simpa [PyData.leavesShort] using h2, by simp only [PyData.weight]; omega, rfl, rfl, by simp [PyData.depth]⟩
  | .int i, h => by
    have hl := log_60 h
    refine ⟨by simp only [PyData.leavesShort, decide_eq_true_eq]; exact len_60 h, ?_, by simp only [PyData.showable, decide_eq_true_eq]; omega, rfl, by simp [PyData.depth]⟩
    simp only [PyData.weight]; split <;> omega
  | .tuple l, h => by
    obtain ⟨r, rfl, h1, h2⟩ := h
    obtain ⟨g1, g2, g3, g4, g5⟩ := row_facts h1
    exact ⟨by simpa [PyData.leavesShort] using g1, by simp only [PyData.weight]; omega, by simpa [PyData.showable] using g3, by simpa [PyData.hasDict] using g4, by simp only [PyData.depth, g5]; omega⟩
  | .none, h => by cases h
  | .bool _, h => by cases h
  | .list _, h => by cases h
  | .dict _, h => by cases h
theorem parts_facts : ∀ {l : List D}, (∀ d ∈ l, PartOk d) → PyData.leavesShortAll 64 l = true ∧ PyData.weightAll l ≤ 20201 * l.length ∧ PyData.showableAll l = true ∧ PyData.hasDictAll l = false ∧ PyData.depthAll l ≤ 2
  | [], _ => by simp [PyData.leavesShortAll, PyData.weightAll, PyData.showableAll, PyData.hasDictAll, PyData.depthAll]
  | d :: l, h => by
    obtain ⟨g1, g2, g3, g4, g5⟩ := part_facts (h d (by simp))
    obtain ⟨h1, h2, h3, h4, h5⟩ := parts_facts (l := l) (fun y hy => h y (by simp [hy]))
    refine ⟨by simp only [PyData.leavesShortAll, g1, h1, Bool.and_true], by simp only [PyData.weightAll, List.length_cons]; omega, by simp only [PyData.showableAll, g3, h3, Bool.and_true], by simp only [PyData.hasDictAll, g4, h4, Bool.or_false], by simp only [PyData.depthAll]; omega⟩
theorem shows_of {l : List D} (hl : l.length ≤ 6) (h : ∀ d ∈ l, PartOk d) : Shows l := by
  obtain ⟨g1, g2, g3, g4, g5⟩ := parts_facts h
  refine ⟨by simpa [PyData.showable] using g3, by simpa [PyData.hasDict] using g4, by simp only [PyData.depth]; omega, ?_⟩
  have h1 := PyData.shown_le 64 (by decide) (.tuple l) (by simpa [PyData.leavesShort] using g1)
  have h2 : (PyData.tuple l).weight ≤ 20201 * 6 := by simp only [PyData.weight]; omega
  rw [sizeLine_eq]; omega
end Dl


set_option Elab.async false
set_option maxRecDepth 100000
set_option linter.all false
set_option maxHeartbeats 2000000
/-! a call by three keywords alone, and by five -/
namespace Dl
open PySem PySem.Spec PyProof.Rows L2
/-- a def with its three parameters by name, the last one first -/
structure FnK3 (I : Inf) (x k1 k2 k3 : Str) (sp : Sp) : Prop where
  ok : ∃ (f : Addr) (fd : FuncData) (ps : List Str) (g : List Value → List Value → List Value) (gV : List V → List V → List V), I.mg x = some (.ref f) ∧ PySem.W.keepIn I.K (.ref f) = true ∧ KBinds I.K fd ps [k1, k2, k3] g gV ∧ (∀ a b c, gV [] [a, b, c] = [c, b, a]) ∧ FnOk I.prog I.w I.K I.mg I.base CX0 I.k f fd ps sp
section
variable {I : Inf} {c : Ct} {ds : List SD} {e1 e2 e3 e4 e5 : Expr} {P : D → Prop} {pos p q1 q2 q3 q4 q5 : Pos} {d1 d2 d3 d4 d5 : D}
theorem ev_callK3 {x k1 k2 k3 : Str} {Pc : List AD → (D → Prop) → Prop} {R : D → Prop} (hf : FnK3 I x k1 k2 k3 (spD I.K Pc)) (hg : I.sc.names.lookup x = some .globalImplicit)
    (h1 : EvE I c e1 ds (· = d1)) (h2 : EvE I c e2 ds (· = d2)) (h3 : EvE I c e3 ds (· = d3)) (hc : Pc [.dat d3, .dat d2, .dat d1] R) (hp : ∀ d, R d → P d)
    (hall : ∀ X, Fits I X → (backToKw pos (keywordEach [⟨some k1, e1, q1⟩, ⟨some k2, e2, q2⟩, ⟨some k3, e3, q3⟩] X.env)).all (·.1.isSome) = true := by intros; rfl)
    (hks : ∀ X, Fits I X → (backToKw pos (keywordEach [⟨some k1, e1, q1⟩, ⟨some k2, e2, q2⟩, ⟨some k3, e3, q3⟩] X.env)).filterMap (·.1) = [k1, k2, k3] := by intros; rfl)
    (hdb : (x == ("__debug__" : Str)) = false := by decide)
    (hpl : ∀ X, Fits I X → ((backTo pos (starEach [] X.env)).any (·.1) || (backToKw pos (keywordEach [⟨some k1, e1, q1⟩, ⟨some k2, e2, q2⟩, ⟨some k3, e3, q3⟩] X.env)).any (·.1.isNone)) = false := by intros; rfl) :
    EvE I c (.Call (.Name x p) [] [⟨some k1, e1, q1⟩, ⟨some k2, e2, q2⟩, ⟨some k3, e3, q3⟩] pos) ds P := fun X F σ G H s Q k => by
  obtain ⟨f, fd, ps, g, gV, hm, hk, hb, hgV, G0⟩ := hf.ok
  have G1 : FnOk X.prog X.w X.K X.mg X.base CX0 I.k f fd ps (spD I.K Pc) := by rw [F.prog, F.w, F.K, F.mg, F.base]; exact G0
  refine w_pe (pe_callK0 G1 F.room (by show X.env.scope.names.lookup x = _; rw [F.sc]; exact hg) (by rw [F.mg]; exact hm) (by rw [F.K]; exact hk) (by rw [F.K]; exact hb) pass0 (pk_cons pe_w (pk_cons pe_w (pk_cons pe_w pk_nil))) (hall X F) (hks X F) hdb (hpl X F)) ?_
  refine h1 X F σ G H s _ fun v1 G1 H1 y1 x1 s1 r1 p1 => h2 X F σ G1 H1 s1 _ fun v2 G2 H2 y2 x2 s2 r2 p2 => h3 X F σ G2 H2 s2 _ fun v3 G3 H3 y3 x3 s3 r3 p3 => ?_
  subst p1; subst p2; subst p3
  show spD I.K Pc (gV [] [v1, v2, v3]) H3 Q E0
  rw [hgV]
  refine ⟨{ deck := c.Z.deck }, G3, [.dat y3, .dat y2, .dat y1], R, rfl, s3.ex, s3.deck, ⟨v3, _, rfl, r3, v2, _, rfl, Rp.mono x3.g _ r2, v1, _, rfl, Rp.mono (x2.trans x3).g _ r1, rfl⟩, hc, fun v G' H' d t r q => ?_⟩
  obtain ⟨s5, gr⟩ := State.after s3 t rfl (.inr rfl)
  exact k v G' H' d (((x1.trans x2).trans x3).trans gr) s5 r (hp d q)
/-- a def with its five parameters by name, the last one first -/
structure FnK5 (I : Inf) (x k1 k2 k3 k4 k5 : Str) (sp : Sp) : Prop where
  ok : ∃ (f : Addr) (fd : FuncData) (ps : List Str) (g : List Value → List Value → List Value) (gV : List V → List V → List V), I.mg x = some (.ref f) ∧ PySem.W.keepIn I.K (.ref f) = true ∧ KBinds I.K fd ps [k1, k2, k3, k4, k5] g gV ∧ (∀ a b c d e, gV [] [a, b, c, d, e] = [e, d, c, b, a]) ∧ FnOk I.prog I.w I.K I.mg I.base CX0 I.k f fd ps sp
theorem ev_callK5 {x k1 k2 k3 k4 k5 : Str} {Pc : List AD → (D → Prop) → Prop} {R : D → Prop} (hf : FnK5 I x k1 k2 k3 k4 k5 (spD I.K Pc)) (hg : I.sc.names.lookup x = some .globalImplicit)
    (h1 : EvE I c e1 ds (· = d1)) (h2 : EvE I c e2 ds (· = d2)) (h3 : EvE I c e3 ds (· = d3)) (h4 : EvE I c e4 ds (· = d4)) (h5 : EvE I c e5 ds (· = d5)) (hc : Pc [.dat d5, .dat d4, .dat d3, .dat d2, .dat d1] R) (hp : ∀ d, R d → P d)
    (hall : ∀ X, Fits I X → (backToKw pos (keywordEach [⟨some k1, e1, q1⟩, ⟨some k2, e2, q2⟩, ⟨some k3, e3, q3⟩, ⟨some k4, e4, q4⟩, ⟨some k5, e5, q5⟩] X.env)).all (·.1.isSome) = true := by intros; rfl)
    (hks : ∀ X, Fits I X → (backToKw pos (keywordEach [⟨some k1, e1, q1⟩, ⟨some k2, e2, q2⟩, ⟨some k3, e3, q3⟩, ⟨some k4, e4, q4⟩, ⟨some k5, e5, q5⟩] X.env)).filterMap (·.1) = [k1, k2, k3, k4, k5] := by intros; rfl)
    (hdb : (x == ("__debug__" : Str)) = false := by decide)
    (hpl : ∀ X, Fits I X → ((backTo pos (starEach [] X.env)).any (·.1) || (backToKw pos (keywordEach [⟨some k1, e1, q1⟩, ⟨some k2, e2, q2⟩, ⟨some k3, e3, q3⟩, ⟨some k4, e4, q4⟩, ⟨some k5, e5, q5⟩] X.env)).any (·.1.isNone)) = false := by intros; rfl) :
    EvE I c (.Call (.Name x p) [] [⟨some k1, e1, q1⟩, ⟨some k2, e2, q2⟩, ⟨some k3, e3, q3⟩, ⟨some k4, e4, q4⟩, ⟨some k5, e5, q5⟩] pos) ds P := fun X F σ G H s Q k => by
  obtain ⟨f, fd, ps, g, gV, hm, hk, hb, hgV, G0⟩ := hf.ok
  have G1 : FnOk X.prog X.w X.K X.mg X.base CX0 I.k f fd ps (spD I.K Pc) := by rw [F.prog, F.w, F.K, F.mg, F.base]; exact G0
  refine w_pe (pe_callK0 G1 F.room (by show X.env.scope.names.lookup x = _; rw [F.sc]; exact hg) (by rw [F.mg]; exact hm) (by rw [F.K]; exact hk) (by rw [F.K]; exact hb) pass0 (pk_cons pe_w (pk_cons pe_w (pk_cons pe_w (pk_cons pe_w (pk_cons pe_w pk_nil))))) (hall X F) (hks X F) hdb (hpl X F)) ?_
  refine h1 X F σ G H s _ fun v1 G1 H1 y1 x1 s1 r1 p1 => h2 X F σ G1 H1 s1 _ fun v2 G2 H2 y2 x2 s2 r2 p2 => h3 X F σ G2 H2 s2 _ fun v3 G3 H3 y3 x3 s3 r3 p3 => h4 X F σ G3 H3 s3 _ fun v4 G4 H4 y4 x4 s4 r4 p4 => h5 X F σ G4 H4 s4 _ fun v5 G5 H5 y5 x5 s5 r5 p5 => ?_
  subst p1; subst p2; subst p3; subst p4; subst p5
  show spD I.K Pc (gV [] [v1, v2, v3, v4, v5]) H5 Q E0
  rw [hgV]
  refine ⟨{ deck := c.Z.deck }, G5, [.dat y5, .dat y4, .dat y3, .dat y2, .dat y1], R, rfl, s5.ex, s5.deck, ⟨v5, _, rfl, r5, v4, _, rfl, Rp.mono x5.g _ r4, v3, _, rfl, Rp.mono (x4.trans x5).g _ r3, v2, _, rfl, Rp.mono ((x3.trans x4).trans x5).g _ r2, v1, _, rfl, Rp.mono (((x2.trans x3).trans x4).trans x5).g _ r1, rfl⟩, hc, fun v G' H' d t r q => ?_⟩
  obtain ⟨s6, gr⟩ := State.after s5 t rfl (.inr rfl)
  exact k v G' H' d ((((((x1.trans x2).trans x3).trans x4).trans x5)).trans gr) s6 r (hp d q)
end
section
variable {I : Inf} {c : Ct} {ds : List SD} {a b : Expr} {pos : Pos}
theorem ev_eqS {x y : Str} (ha : EvE I c a ds (· = .str x)) (hb : EvE I c b ds (· = .str y)) : EvE I c (.Compare a [.Eq] [b] pos) ds (· = .bool (decide (x = y))) :=
  ev_cmp (fun _ _ => op_eq) (nobehind _ (by decide) (by decide)) ha hb fun d e hi hj => by
    rw [hi, hj]; intro σ G H x' y' s rx ry Q k
    have ex : x' = .str x := by unfold Rp at rx; exact rx
    have ey : y' = .str y := by unfold Rp at ry; exact ry
    rw [ex, ey]
    refine ⟨rfl, k.now s .bl ?_⟩
    congr 1; exact decide_eq_decide.mpr ⟨fun h => by injection h, fun h => by rw [h]⟩
end
end Dl


set_option Elab.async false
set_option maxRecDepth 100000
set_option linter.all false
set_option maxHeartbeats 1000000
/-! a tuple of four names as a target -/
namespace Dl
open PySem PySem.Spec PyProof.Rows L2
theorem tg_four {I : Inf} {i j m l : Nat} {x y z t : Str} {p1 p2 p3 p4 p : Pos} {kk : Nat} (hx : Sto I i x) (hy : Sto I j y) (hz : Sto I m z) (ht : Sto I l t) : TgE I (.Tuple [.Name x p1, .Name y p2, .Name z p3, .Name t p4] kk p) (fun d as => ∃ d1 d2 d3 d4, d = .tuple [d1, d2, d3, d4] ∧ as = [(i, d1), (j, d2), (m, d3), (l, d4)]) :=
  ⟨gTup I.K 4 (gCons (gName i) (gCons (gName j) (gCons (gName m) (gCons (gName l) gNil)))), fun X F => F.K ▸ pg_tup F.calm (pgs_cons (pg_name (i := i) (by rw [F.N]; exact F.nd) (by rw [F.N]; exact hx.at_) (by rw [F.sc]; exact hx.loc) (hx.fn F)) (pgs_cons (pg_name (i := j) (by rw [F.N]; exact F.nd) (by rw [F.N]; exact hy.at_) (by rw [F.sc]; exact hy.loc) (hy.fn F)) (pgs_cons (pg_name (i := m) (by rw [F.N]; exact F.nd) (by rw [F.N]; exact hz.at_) (by rw [F.sc]; exact hz.loc) (hz.fn F)) (pgs_cons (pg_name (i := l) (by rw [F.N]; exact F.nd) (by rw [F.N]; exact ht.at_) (by rw [F.sc]; exact ht.loc) (ht.fn F)) pgs_nil)))),
    fun c σ G H ds v d as s r ha Q k => by
    obtain ⟨d1, d2, d3, d4, rfl, rfl⟩ := ha
    obtain ⟨a, xs, rfl, hq, _, ra⟩ := r.tup'
    obtain ⟨v1, ws, rfl, r1, ra2⟩ := ra.inv
    obtain ⟨v2, ws2, rfl, r2, ra3⟩ := ra2.inv
    obtain ⟨v3, v4, rfl, r3, r4⟩ := rpa2 ra3
    have s1 := State.set s (i := i) (sd := .dat d1) rfl ⟨v1, rfl, r1⟩
    have s2 := State.set s1 (i := j) (sd := .dat d2) rfl ⟨v2, rfl, r2⟩
    have s3 := State.set s2 (i := m) (sd := .dat d3) rfl ⟨v3, rfl, r3⟩
    have s4 := State.set s3 (i := l) (sd := .dat d4) rfl ⟨v4, rfl, r4⟩
    refine ⟨a, [v1, v2, v3, v4], rfl, ex_t s.ex hq, rfl, v1, [v2, v3, v4], rfl, v2, [v3, v4], rfl, v3, [v4], rfl, v4, [], rfl, rfl, ?_⟩
    exact k _ s4 (fun vs hv => (wipe_set (hv (l, d4) (by simp))).trans ((wipe_set (hv (m, d3) (by simp))).trans ((wipe_set (hv (j, d2) (by simp))).trans (wipe_set (hv (i, d1) (by simp)))))) (fun p h => h.set.set.set.set)⟩
end Dl


set_option Elab.async false
set_option maxRecDepth 100000
set_option linter.all false
set_option maxHeartbeats 1000000
/-! list.extend by a tuple; range of two -/
namespace PySem.AutoSeq1
theorem list_extend_list_tupleX (l : Addr) (items : Array Value) (n : Nat) (b : Addr) (items2 : Array Value) (n2 : Nat) (di : Option Addr) (sl : Array (Option Value)) (hs0 : ¬(!items.isEmpty && Builtin.List.listTooLong (items.size + items2.size)) = true) (hs1 : items.size ≤ sizeLine) (hs2 : items.size + items2.size ≤ sizeLine + 1 := by seq_fits) :
    Meets (Builtin.«list.extend» ⟨[.ref l, .ref b], []⟩) (fun _ R s => s.heap.get? l = some { cls := .type "list", dict := none, data := .seq items n, slots := #[] } ∧ s.heap.get? b = some { cls := .type "tuple", dict := di, data := .seq items2 n2, slots := sl } ∧ R (.ok (.ret Value.none)) { s with heap := s.heap.update l (Obj.mapSeq fun x => x ++ items2), toks := s.toks }) :=
  .of_wp fun prog w A R s h => by
    obtain ⟨hp, g, d, tk, os⟩ := s; obtain ⟨hl, hb, h⟩ := h; have f1 := idx_int; have f2 := sub_tuple_tuple; have f3 := sub_list_list; have f4 := sub_tuple_list; have f5 := sub_list_tuple;
    have hz' : (items ++ items2).size ≤ sizeLine + 1 := by rw [Array.size_append]; exact hs2
    wp_walk using (wpAny_updateSeq hl rfl (hz := hs1) (_hz' := hz')), wpAny_loadPart' hl, wpAny_loadPart' hb; exact ⟨_, rfl, h⟩
end PySem.AutoSeq1
namespace Dl
open PySem PySem.Spec PyProof.Rows L2
section
variable {X : Cx}
def rExtendT (K : PySem.W.Frag) : V → List V → Hp → VK → Prop := fun x vs H Q => ∃ l b xs zs, x = .ref l ∧ vs = [.ref b] ∧ H l = some (.lst xs) ∧ SqT K H b zs ∧ xs.length + zs.length ≤ sizeLine ∧ Q .non (upd H l (.lst (xs ++ zs)))
theorem mt_extendT : MtM X "list.extend" (rExtendT X.K) := by
  intro pins s σ H x vs v us Q I rx rv h
  obtain ⟨l, b, xs, zs, rfl, rfl, hH, hB, hz, q⟩ := h
  cases rx
  obtain ⟨u, rfl, ru⟩ := rv.one
  cases ru
  obtain ⟨z, its, n, r, hl, e⟩ := I.lstM hH
  obtain ⟨its2, r2, ⟨⟨oc, od, oda, osl⟩, e2, k1, n2, k2⟩, hl2⟩ := I.tuple hB
  simp only at k1 k2
  subst k1; subst k2
  have hsz : its.toArray.size + its2.toArray.size ≤ sizeLine := by rw [List.size_toArray, List.size_toArray, ← r2.length]; omega
  have hlong : ¬ (!its.toArray.isEmpty && Builtin.List.listTooLong (its.toArray.size + its2.toArray.size)) = true := by
    rw [notLongL hsz, Bool.and_false]
    exact Bool.false_ne_true
  refine call_meets F.slot_list_extend ⟨_, e, rfl⟩ F.entry_list_extend (F.args_list_extend_2 _ _)
    (AutoSeq1.list_extend_list_tupleX l its.toArray n b its2.toArray n2 od osl hlong (by rw [List.size_toArray]; omega) (by omega)) ⟨e, e2, ?_⟩
  refine ⟨.non, _, I.lset (its' := its ++ its2) hH e (by simp) (r.append r2) ?_, rfl, q⟩
  rw [List.length_append]
  omega
end
section
variable {I : Inf} {c : Ct} {ds : List SD} {A : After} {st : Stmt} {rest : List Stmt} {e : Expr} {P : D → Prop} {pos : Pos} {d : D}
theorem rs_extend {i : Nat} {x : Str} {l m : List D} {p p2 p3 p4 : Pos} (hN : I.N[i]? = some x) (hv : Vis I.sc x) (ho : ds[i]? = some (.own l)) (hl : l.length + m.length ≤ Lm) (h : EvE I c e ds (· = .tuple m)) (hn : A.nx (ds.set i (.own (l ++ m))))
    (h1 : (x == ("__debug__" : Str)) = false := by decide) (h2 : (x == ("__classdict__" : Str)) = false := by decide)
    (hsx : ∀ X, Fits I X → starEach [e] X.env = (false, eval e X.env) :: starEach [] X.env := by intros; rfl) (hline : (p2.endLine == p3.line) = true := by rfl)
    (hfew : ∀ X, Fits I X → ((((backTo p3 (starEach [e] X.env)).all fun x => !x.fst) && (backToKw p3 (keywordEach [] X.env)).all fun x => x.fst.isSome) && decide (([e].length + ([] : List Keyword).length + if ([] : List Keyword).isEmpty = true then 0 else 1) < 30)) = true := by intros; rfl) :
    RunS I c (.Expr (.Call (.Attribute (.Name x p) ("extend" : Str) p2) [e] [] p3) p4) ds A := fun X F σ G H E s k => by
  have go : PE X (.Call (.Attribute (.Name x p) ("extend" : Str) p2) [e] [] p3) _ := pe_bm PySem.F.plainAttrs_list PySem.F.slot_list_extend PySem.F.type_list_extend mt_extendT (pe_var (i := i) (by rw [F.N]; exact hN) (by rw [F.sc]; exact hv) h1 h2) (pa_cons (pe_w (e := e)) pa_nil (hsx X F)) (hfew := hfew X F) (hline := hline) (hs := hsx X F)
  refine w_ps (ps_expr go) ?_
  obtain ⟨q, xs, e1, h0, h3, h4, h5, h6, h7⟩ := own_at s ho
  refine ⟨.ref q, e1, .inl ⟨rfl, xs, SqL.of h6⟩, h X F σ G H s _ fun v G1 H1 d x1 s1 r1 p1 => ?_⟩
  subst p1
  obtain ⟨ys, g1, g2, g3⟩ := own_same s s1 ho e1
  obtain ⟨a, zs, rfl, t1, t2, t3⟩ := r1.tup'
  have hlen : l.length + m.length ≤ Lm := hl
  refine ⟨q, a, ys, zs, rfl, rfl, g1, by rw [F.K]; exact ex_t s1.ex t1, by rw [g2.length, t3.length]; exact Nat.le_of_lt (Lm_lt hlen), ?_⟩
  exact k.nx σ G1 _ _ x1.g (own_put s1 ho e1 (g2.append t3) (by rw [List.length_append]; exact hlen)) hn
theorem wk_range2 {tg a b : Expr} {p : Pos} {i j : Int} (hg : I.sc.names.lookup ("range" : Str) = some .globalImplicit) (hm : I.mg "range" = none) (h : EvA I c [a, b] ds (· = [.int i, .int j])) (h1 : -(2 ^ 62) ≤ i) (h2 : i < 2 ^ 62) (h3 : -(2 ^ 62) ≤ j) (h4 : j < 2 ^ 62)
    (hs : ∀ X, Fits I X → starEach [a, b] X.env = [(false, eval a X.env), (false, eval b X.env)] := by intros; rfl) (hs2 : ∀ X, Fits I X → starEach [b] X.env = [(false, eval b X.env)] := by intros; rfl) : Walk I c tg (.Call (.Name "range" p) [a, b] [] pos) ds (· = intsD i (j - i).toNat) := fun X F =>
  ⟨_, pi_range2 (by show X.env.scope.names.lookup _ = _; rw [F.sc]; exact hg) (by rw [F.mg]; exact hm) pa_w (hs X F) (hs2 X F), fun σ G H s R k => h X F σ G H s _ fun vs G1 H1 l x1 s1 r1 p1 => by
    subst p1
    obtain ⟨v1, v2, rfl, q1, q2⟩ := rpa2 r1
    rw [q1.int', q2.int']
    exact ⟨i, j, rfl, ⟨h1, h2, h3, h4⟩, k _ G1 H1 _ x1 s1 yields_intsD rfl⟩⟩
end
end Dl


set_option Elab.async false
set_option maxRecDepth 100000
set_option linter.all false
set_option maxHeartbeats 1000000
/-! enumerate of a tuple; a pair within a pair as a target -/
namespace Dl
open PySem PySem.Spec PyProof.Rows L2
open AutoSeq1 (wpAny_loadPart')
theorem meets_enumerate_newT (l : Addr) (items : Array Value) (n : Nat) (dct : Option Addr) (sl : Array (Option Value)) :
    Meets (Builtin.«enumerate.__new__» ⟨[.type "enumerate", .ref l], []⟩) (fun _ R s => s.heap.get? l = some { cls := .type "tuple", dict := dct, data := .seq items n, slots := sl } ∧
      R (.ok (.ret (.ref (s.heap.push { cls := .type "tuple_iterator", data := .fields #[.ref l, .int 0 0] }).objs.size)))
        { s with heap := (s.heap.push { cls := .type "tuple_iterator", data := .fields #[.ref l, .int 0 0] }).push { cls := .type "enumerate", data := .fields #[.none, .bool false, .ref s.heap.objs.size, rawInt 0, .none, .none] } }) :=
  .of_wp fun prog w A R s h => by
    obtain ⟨hp, g, d, tk, os⟩ := s; obtain ⟨hl, h⟩ := h
    have hsub := sub_enumerate
    have hL : Heap.IsTuple (Shared.heap ⟨hp, g, d, tk, os⟩) l items := ⟨_, hl, rfl, n, rfl⟩
    wp_walk using wpAny_loadPart' hl
    refine wpAny_stack_any fun st => wpAny_pure ?_
    split
    · rename_i c _ _ _ _ _
      cases (c == Value.type "enumerate")
      · wp_walk using wpAny_loadPart' hl, wpAny_pyIter_tuple hL
        exact ⟨_, rfl, h⟩
      · wp_walk using wpAny_loadPart' hl, wpAny_pyIter_tuple hL
        exact ⟨_, rfl, h⟩
    · wp_walk using wpAny_loadPart' hl, wpAny_pyIter_tuple hL
      exact ⟨_, rfl, h⟩
section
variable {prog : Program} {w : World} {A : Around} {E : Value → Shared → Prop} {s : Shared}
theorem call_enumerate_tuple {l : Addr} {items : Array Value} {Q : Value → Shared → Prop} (hL : s.heap.IsTuple l items)
    (h : ∀ h', IsEnum h' (s.heap.objs.size + 1) s.heap.objs.size 0 .none → h'.IsTupleIter s.heap.objs.size l 0 → h'.objs.size = s.heap.objs.size + 2 →
      (∀ b o, s.heap.get? b = some o → h'.get? b = some o) → Q (.ref (s.heap.objs.size + 1)) { s with heap := h' }) :
    wpAny (model prog w) A (call (.type "enumerate") [.ref l]) Q E s := by
  obtain ⟨⟨c, dct, dt, sl⟩, hl, hc, n, hd⟩ := hL
  replace hc : c = .type "tuple" := hc
  replace hd : dt = .seq items n := hd
  subst hc hd
  refine callType_new F.called_enumerate (by decide) (F.typeCall_enumerate_1 _) (F.newCall_enumerate_1 _) (fun obj => F.args_object_init_2 obj _) F.entry_enumerate_new
    (meets_enumerate_newT l items n dct sl) ⟨hl, ?_⟩
  have hz : (s.heap.push { cls := .type "tuple_iterator", data := .fields #[.ref l, .int 0 0] }).objs.size = s.heap.objs.size + 1 := Heap.size_push ..
  show _ ∧ _
  rw [hz]
  have he : IsEnum ((s.heap.push { cls := .type "tuple_iterator", data := .fields #[.ref l, .int 0 0] }).push
      { cls := .type "enumerate", data := .fields #[.none, .bool false, .ref s.heap.objs.size, rawInt 0, .none, .none] }) (s.heap.objs.size + 1) s.heap.objs.size 0 .none := by
    have := Heap.get?_push_size (s.heap.push { cls := .type "tuple_iterator", data := .fields #[.ref l, .int 0 0] })
      (o := { cls := .type "enumerate", data := .fields #[.none, .bool false, .ref s.heap.objs.size, rawInt 0, .none, .none] }) rfl
    rw [hz] at this; exact this
  refine ⟨⟨_, he, rfl⟩, h _ he ⟨_, Heap.get?_push_of_some _ (Heap.get?_push_size _ rfl), rfl, rfl⟩ (by rw [Heap.size_push, hz]) fun b o x => Heap.get?_push_of_some _ (Heap.get?_push_of_some _ x)⟩
theorem pyNext_enumT_end {e it l : Addr} {i : Nat} {items : Array Value} {old : Value} {Q : Option Value → Shared → Prop} (hh : A.handled = none)
    (he : IsEnum s.heap e it i old) (hit : s.heap.IsTupleIter it l i) (hl : s.heap.IsTuple l items) (hx : items[i]? = none)
    (hQ : ∀ h', Heap.ExtBut it s.heap h' → Q none { s with heap := h' }) : wpAny (model prog w) A (pyNext (.ref e)) Q E s := by
  have hT : s.TypeIs (.ref e) "enumerate" := ⟨_, he, rfl⟩
  unfold pyNext
  refine wpAny_bind (wpAny_attempt (wpAny_callSpecial?_slot (name := Str.ofString "__next__") hT F.slot_enumerate_next
    (wpAny_call_entry F.slot_enumerate_next hT F.entry_enumerate_next ?_ (F.args_enumerate_next_1 _))))
  show wpAny _ _ (field (.ref e) 2 >>= _) _ _ _
  refine wpAny_bind (wpAny_field he rfl (x := .ref it) rfl ?_)
  refine wpAny_bind (RZ.nextOf_tuple_end hh hit hl hx fun h' x he' hx' => ?_)
  obtain ⟨o, ho, hc⟩ := hx'
  refine wpAny_bind (wpAny_isInstance (T := "StopIteration") (b := true) ⟨o, ho, hc⟩ isSubtype_stop ?_)
  exact wpAny_pure (hQ _ he')
end
/-- the tuple at a as it stands at each turn, each item in a new pair -/
def IteT (K : PySem.W.Frag) (a : Addr) : It :=
  ⟨fun i H => ∃ (xs : List V) (x : V), SqT K H a xs ∧ xs[i]? = some x, fun i H v H' => ∃ T x, v = .ref T ∧ H T = none ∧ H' = upd H T (.tup [.int (i : Nat), x]) ∧ ∀ xs, SqT K H a xs → xs[i]? = some x, fun i H => ∃ xs : List V, SqT K H a xs ∧ xs.length ≤ i⟩
theorem turn_enumT {P : Program} {w : World} {K : PySem.W.Frag} {elts : List Expr} {kk : Nat} {tpos : Pos} (a e it : Addr) (hai : a ≠ it) :
    Turn P w K (.Tuple elts kk tpos) (IteT K a) [e, it] e (fun i h => (∃ old, IsEnum h e it ((i : Nat) : Int) old) ∧ h.IsTupleIter it a i ∧ e ≠ it ∧ e ≠ a) where
  mem := by simp
  obj := fun i h st b hb => by
    obtain ⟨⟨old, he⟩, ⟨o, ho, hc, hd⟩, _⟩ := st
    have e' : b = e ∨ b = it := by simpa using hb
    rcases e' with z | z
    · rw [z]; exact ⟨_, he, fun v q => nomatch q⟩
    · rw [z]; exact ⟨o, ho, fun v q => by rw [hd] at q; cases q⟩
  keep := fun i h h' st k => let ⟨⟨old, he⟩, hi, hne, hna⟩ := st; ⟨⟨old, k e (by simp) _ he⟩, hi.at fun o q => k it (by simp) o q, hne, hna⟩
  item := by
    intro X hP hw hK hc i pins s σ H E I hf st hg
    subst hP hw hK
    obtain ⟨⟨old, he⟩, hit, hne, hna⟩ := st
    obtain ⟨xs, x, hq, hx⟩ := hg
    obtain ⟨its, rv, p, hz⟩ := I.tuple hq
    obtain ⟨u, hu, ru⟩ := rv.get hx
    have hel : e < s.heap.objs.size := Heap.lt_size he
    have hil : it < s.heap.objs.size := by obtain ⟨_, q, _⟩ := hit; exact Heap.lt_size q
    have hlt : i < its.toArray.size := by
      have := (List.getElem?_eq_some_iff.mp hu).1
      simpa using this
    refine wpAny_pyNext_enum_itemD (Draws.tuple (A := X.A.in1) (I.ok.hd hc) it a hai its.toArray) he ⟨hit, p⟩ hlt hne (by simp; exact ⟨hne, hna⟩) fun u' h' tk hP ho hst' hT hsz hk => ?_
    have eu : u' = u := by
      have h1 : its.toArray[i]? = some u' := hP
      have h2 : its.toArray[i]? = some u := by simpa using hu
      rw [h1] at h2; exact Option.some.inj h2
    subst eu
    refine ⟨_, rfl, wpAny_letOwnedTupleGo_enum (s := { s with heap := h', toks := tk + 1 }) ho fun h'' he' sb => ?_⟩
    have hT2 : h''.get? s.heap.objs.size = some { cls := .type "tuple", data := .seq #[.int i tk, u'] } := (sb.2 _ (Nat.ne_of_gt hel)).trans hT
    have new : ObjOk X.prog X.w (upd H s.heap.objs.size (.tup [.int (i : Nat), x])) h'' s.heap.objs.size (.tup [.int (i : Nat), x]) :=
      ⟨by show 2 ≤ sizeLine; decide, [.int i tk, u'], .cons ⟨_, rfl⟩ (.cons ru .nil), ⟨_, hT2, rfl, _, rfl⟩⟩
    have I1 : Inv X pins σ (upd H s.heap.objs.size (.tup [.int (i : Nat), x])) { s with heap := h'', toks := tk + 1 } :=
      I.turnedNew (ch := [e, it]) (fun b ob hb q => (sb.2 b (fun z => hb (by simp [z]))).trans (hk b ob (fun z => hb (by simp [z])) (fun z => hb (by simp [z])) q)) hf (Nat.le_refl _) new
    refine ⟨.ref s.heap.objs.size, _, I1, rfl, ⟨_, x, rfl, I.hok.fresh (Nat.le_refl _), rfl, fun ys hy => by rw [I.tuple_inj hy hq]; exact hx⟩, ⟨⟨u', ?_⟩, hst'.1.at fun o q => (sb.2 it (Ne.symm hne)).trans q, hne, hna⟩, fun b hb => ?_⟩
    · have e1 : ((i + 1 : Nat) : Int) = (i : Int) + 1 := by omega
      rw [e1]; exact he'
    · have hb' : b < s.heap.objs.size := by
        have e' : b = e ∨ b = it := by simpa using hb
        rcases e' with z | z
        · rw [z]; exact hel
        · rw [z]; exact hil
      rw [upd_ne (Nat.ne_of_lt hb')]
      exact (hf b hb).1
  done := by
    intro X hP hw hK hc i pins s σ H E I hf st hg
    subst hP hw hK
    obtain ⟨⟨old, he⟩, hit, hne⟩ := st
    obtain ⟨xs, hq, hx⟩ := hg
    obtain ⟨its, rv, p, hz⟩ := I.tuple hq
    obtain ⟨f0, f1, f2, f3, f4, f5⟩ := hf it (by simp)
    have hl := rv.length
    exact pyNext_enumT_end (I.ok.hd hc) he hit p (by simp; omega) fun h' eb => ⟨rfl, I.turned (t' := s.toks) (fun b o hb q => eb b o hb q) f0 f1 f3 f4 f5⟩
  self := fun A i s Q E st h => let ⟨⟨_, he⟩, _⟩ := st; wpAny_pyIter_enum he h
def iEnumT (K : PySem.W.Frag) (ta : TA) : TI := fun σ H R => ta σ H fun vs H1 => ∃ a xs, vs = [.ref a] ∧ SqT K H1 a xs ∧ R (IteT K a) H1
theorem pi_enumT {X : Cx} {e : Expr} {ta : TA} {p pos tpos : Pos} {elts : List Expr} {kk : Nat} (hg : Gl X "enumerate") (hm : X.mg "enumerate" = none) (ha : PA X [e] ta) (hs : starEach [e] X.env = [(false, eval e X.env)] := by rfl) :
    PI X (.Tuple elts kk tpos) (.Call (.Name "enumerate" p) [e] [] pos) (iEnumT X.K ta) := by
  refine ⟨fun pins s σ H R I h => ?_⟩
  refine Call_ (ld_blt I hg hm boot_enumerate (PyProof.Rows.callWith_type1 (thn (ha.run pos pins s σ H _ I h) fun us s1 ⟨vs, H1, I1, r1, q1⟩ => ?_) hs rfl))
  obtain ⟨a, xs, ex, hq, q⟩ := q1
  subst ex
  cases r1 with
  | cons r rr =>
    cases rr
    cases r
    obtain ⟨its, rv, p', hz⟩ := I1.tuple hq
    have hal : a < s1.heap.objs.size := by obtain ⟨o, q, _⟩ := p'; exact Heap.lt_size q
    refine call_enumerate_tuple p' fun h' he hit hsz hk => wpAny_pyIter_enum he ?_
    have I2 : Inv X pins σ H1 { s1 with heap := h' } := I1.kept (t' := s1.toks) hk
    refine ⟨s1.heap.objs.size + 1, [s1.heap.objs.size + 1, s1.heap.objs.size], _, _, H1, rfl, I2, turn_enumT a (s1.heap.objs.size + 1) s1.heap.objs.size (Nat.ne_of_lt hal), ⟨⟨.none, he⟩, hit, Nat.succ_ne_self _, Nat.ne_of_gt (Nat.lt_succ_of_lt hal)⟩, fun b hb => ?_, q⟩
    have e' : b = s1.heap.objs.size + 1 ∨ b = s1.heap.objs.size := by simpa using hb
    have hle : s1.heap.objs.size ≤ b := by
      rcases e' with z | z
      · rw [z]; exact Nat.le_add_right _ _
      · rw [z]; exact Nat.le_refl _
    exact I1.fpOk hle (I1.hok.fresh hle)
theorem yields_enumT {K : Frag} {a : Addr} {xs : List V} {l : List D} {G : Hp} (h : SqT K G a xs) (r : RpA K G l xs) : Yields K (IteT K a) G (enumL l) := fun Z G0 H0 σ ds G1 H x s =>
  ⟨fun i d hi => by
    obtain ⟨d0, h0, rfl⟩ := enumL_get hi
    obtain ⟨v, h1, h2⟩ := r.get h0
    have hq : SqT K H a xs := ex_t s.ex (ex_t x h)
    exact ⟨⟨xs, v, hq, h1⟩, fun y H' ⟨T, w, e1, hT, e2, q⟩ => by
      subst e1; subst e2
      have := q xs hq
      rw [h1] at this; cases this
      exact State.tupled s hT .int (h2.mono x)⟩, ⟨xs, ex_t s.ex (ex_t x h), by rw [r.length, enumL_length]; exact Nat.le_refl _⟩⟩
section
variable {I : Inf} {c : Ct} {ds : List SD} {e : Expr} {pos : Pos}
theorem wk_enumT {elts : List Expr} {kk : Nat} {tpos p : Pos} {l : List D} (hg : I.sc.names.lookup ("enumerate" : Str) = some .globalImplicit) (hm : I.mg "enumerate" = none) (h : EvE I c e ds (· = .tuple l))
    (hs : ∀ X, Fits I X → starEach [e] X.env = [(false, eval e X.env)] := by intros; rfl) : Walk I c (.Tuple elts kk tpos) (.Call (.Name "enumerate" p) [e] [] pos) ds (· = enumL l) := fun X F =>
  ⟨_, pi_enumT (by show X.env.scope.names.lookup _ = _; rw [F.sc]; exact hg) (by rw [F.mg]; exact hm) (pa_cons pe_w pa_nil (hs X F)) (hs X F), fun σ G H s R k => h X F σ G H s _ fun v G1 H1 d x1 s1 r1 p1 => by
    subst p1
    obtain ⟨a, xs, rfl, h1, h2, h3⟩ := r1.tup'
    have := k (IteT I.K a) G1 H1 _ x1 s1 (yields_enumT h1 h3) rfl
    exact ⟨a, xs, rfl, by rw [F.K]; exact ex_t s1.ex h1, by rw [F.K]; exact this⟩⟩
end
theorem tg_nest {I : Inf} {i j m : Nat} {x y z : Str} {p1 p2 p3 p p0 : Pos} {kk k2 : Nat} (hx : Sto I i x) (hy : Sto I j y) (hz : Sto I m z) : TgE I (.Tuple [.Name x p1, .Tuple [.Name y p2, .Name z p3] k2 p0] kk p) (fun d as => ∃ d1 d2 d3, d = .tuple [d1, .tuple [d2, d3]] ∧ as = [(i, d1), (j, d2), (m, d3)]) :=
  ⟨gTup I.K 2 (gCons (gName i) (gCons (gTup I.K 2 (gCons (gName j) (gCons (gName m) gNil))) gNil)), fun X F => F.K ▸ pg_tup F.calm (pgs_cons (pg_name (i := i) (by rw [F.N]; exact F.nd) (by rw [F.N]; exact hx.at_) (by rw [F.sc]; exact hx.loc) (hx.fn F)) (pgs_cons (pg_tup F.calm (pgs_cons (pg_name (i := j) (by rw [F.N]; exact F.nd) (by rw [F.N]; exact hy.at_) (by rw [F.sc]; exact hy.loc) (hy.fn F)) (pgs_cons (pg_name (i := m) (by rw [F.N]; exact F.nd) (by rw [F.N]; exact hz.at_) (by rw [F.sc]; exact hz.loc) (hz.fn F)) pgs_nil))) pgs_nil)),
    fun c σ G H ds v d as s r ha Q k => by
    obtain ⟨d1, d2, d3, rfl, rfl⟩ := ha
    obtain ⟨a, xs, rfl, hq, _, ra⟩ := r.tup'
    obtain ⟨v1, v2, rfl, r1, r2⟩ := rpa2 ra
    obtain ⟨a2, ys, rfl, hq2, _, ra2⟩ := r2.tup'
    obtain ⟨v3, v4, rfl, r3, r4⟩ := rpa2 ra2
    have s1 := State.set s (i := i) (sd := .dat d1) rfl ⟨v1, rfl, r1⟩
    have s2 := State.set s1 (i := j) (sd := .dat d2) rfl ⟨v3, rfl, r3⟩
    have s3 := State.set s2 (i := m) (sd := .dat d3) rfl ⟨v4, rfl, r4⟩
    refine ⟨a, [v1, .ref a2], rfl, ex_t s.ex hq, rfl, v1, [.ref a2], rfl, .ref a2, [], rfl, a2, [v3, v4], rfl, ex_t s.ex hq2, rfl, v3, [v4], rfl, v4, [], rfl, rfl, rfl, ?_⟩
    exact k _ s3 (fun vs hv => (wipe_set (hv (m, d3) (by simp))).trans ((wipe_set (hv (j, d2) (by simp))).trans (wipe_set (hv (i, d1) (by simp))))) (fun p h => h.set.set.set)⟩
end Dl


set_option Elab.async false
set_option maxRecDepth 100000
set_option linter.all false
set_option maxHeartbeats 1000000
/-! every other item of a tuple: t[::2], t[1::2] -/
namespace Dl
open PySem PySem.Spec PyProof.Rows L2 HT
section
variable {prog : Program} {w : World} {A : Around} {E : Value → Shared → Prop} {s : Shared}
theorem sliceApplied_two {sl : Addr} {vl vs : Value} {lo : Option Int} {a m n : Nat} {Q : Int × Int × Nat → Shared → Prop} (hs : s.heap.IsSliceOf sl vl .none vs) (pl : IsPart vl lo) (ps : IsPart vs (some 2)) (hlo : lo = none ∧ a = 0 ∨ lo = some 1 ∧ a = 1) (hn : n = 2 * m) (hm : 1 ≤ m)
    (h : Q ((a : Int), 2, m) s) : wpAny (model prog w) A (Builtin.Slice.sliceApplied (.ref sl) (pure (n : Int))) Q E s := by
  obtain ⟨os, hos, hcs, hds⟩ := id hs
  unfold Builtin.Slice.sliceApplied Builtin.Slice.sliceFields
  refine wpAny_bind (wpAny_bind (wpAny_field hos hds (x := vl) rfl (wpAny_bind (wpAny_field hos hds (x := .none) rfl (wpAny_bind (wpAny_field hos hds (x := vs) rfl (wpAny_pure ?_)))))))
  refine wpAny_bind (slicePart_ ps ?_)
  show wpAny _ _ (if ((2 : Int) == 0) = true then _ else _) _ _ s
  rw [if_neg (by decide)]
  refine wpAny_bind (slicePart_ pl (wpAny_bind (slicePart_ .none (wpAny_bind (wpAny_pure ?_)))))
  show wpAny _ _ (match Builtin.Slice.sliceAdjust lo none 2 (n : Int) with | (lo, hi) => pure (lo, (2 : Int), Builtin.Slice.slicePlaces lo hi 2)) _ _ s
  have e1 : Builtin.Slice.sliceAdjust lo none 2 (n : Int) = ((a : Int), (n : Int)) := by
    unfold Builtin.Slice.sliceAdjust
    rcases hlo with ⟨rfl, rfl⟩ | ⟨rfl, rfl⟩
    · rfl
    · show ((if (1 : Int) < 0 then _ else min (1 : Int) (n : Int)), (n : Int)) = _
      rw [if_neg (by decide)]
      congr 1
      omega
  rw [e1]
  have e2 : Builtin.Slice.slicePlaces (a : Int) (n : Int) 2 = m := by
    unfold Builtin.Slice.slicePlaces
    have h1 : (2 : Int) > 0 := by omega
    simp only [h1, if_true]
    rw [if_pos (by omega)]
    omega
  show wpAny _ _ (pure ((a : Int), (2 : Int), Builtin.Slice.slicePlaces (a : Int) (n : Int) 2)) _ _ s
  rw [e2]
  exact wpAny_pure h
theorem getItem_tuple_two {t sl : Addr} {items : Array Value} {vl vs : Value} {lo : Option Int} {a m : Nat} {Q : Value → Shared → Prop} (ht : IsTup s.heap t items) (hs : s.heap.IsSliceOf sl vl .none vs) (pl : IsPart vl lo) (ps : IsPart vs (some 2))
    (hlo : lo = none ∧ a = 0 ∨ lo = some 1 ∧ a = 1) (hn : items.size = 2 * m) (hm : 1 ≤ m)
    (h : Q (.ref s.heap.objs.size) { s with heap := s.heap.push { cls := .type "tuple", data := .seq ((List.range m).filterMap (fun (i : Nat) => items[((a : Int) + (i : Int) * 2).toNat]?)).toArray } })
    (hsz : items.size ≤ sizeLine) : wpAny (model prog w) A (getItem (.ref t) (.ref sl)) Q E s := by
  have htake : sizeOk (.seq ((List.range m).filterMap (fun (i : Nat) => items[((a : Int) + (i : Int) * 2).toNat]?)).toArray) := by
    show ((List.range m).filterMap (fun (i : Nat) => items[((a : Int) + (i : Int) * 2).toNat]?)).toArray.size ≤ sizeLine
    rw [List.size_toArray]
    have := List.length_filterMap_le (fun (i : Nat) => items[((a : Int) + (i : Int) * 2).toNat]?) (List.range m)
    rw [List.length_range] at this
    omega
  obtain ⟨os, hos, hcs, hds⟩ := id hs
  have hTs : s.TypeIs (.ref sl) "slice" := ⟨os, hos, hcs⟩
  unfold getItem
  try with_reducible refine wpAny_holding ?_
  first | refine wpAny_bind (wpAny_pure ?_) | skip
  refine wpAny_bind (wpAny_sequenceKey ht.typeIs (by decide) ?_)
  refine wpAny_bind (wpAny_callSpecial?_slot (name := Str.ofString "__getitem__") ht.typeIs PyProof.Rows.slot_tuple_getitem
    (wpAny_call_entry PyProof.Rows.slot_tuple_getitem ht.typeIs entry_tuple_getitem ?_ (args_tuple_getitem _ _)))
  show wpAny _ _ (Builtin.Tuple.tupleItemsOf (.ref t) >>= _) _ _ s
  refine wpAny_bind (tupleItemsOf_ ht ?_)
  refine wpAny_bind (wpAny_typeOf hTs ?_)
  rw [if_pos (by decide)]
  refine wpAny_bind (sliceApplied_two hs pl ps hlo hn hm ?_)
  have hno : ¬ ((((a : Nat) : Int) == 0 && (2 : Int) == 1 && m == items.size) = true) := by
    intro q
    rw [Bool.and_eq_true, Bool.and_eq_true] at q
    exact absurd q.1.2 (by decide)
  show wpAny _ _ (if (((a : Nat) : Int) == 0 && (2 : Int) == 1 && m == items.size) = true then _ else _) _ _ s
  rw [if_neg hno]
  first
    | exact wpAny_bind (m := Builtin.Tuple.tupleExact _) (wpAny_newObj_type (wpAny_pure ⟨_, rfl, wpAny_pure h⟩) htake)
    | exact wpAny_bind (m := Builtin.Tuple.tupleExact _) (wpAny_newObj_type (wpAny_bind (wpAny_pure (wpAny_pure ⟨_, rfl, wpAny_pure h⟩))) htake)
end
/-- every other item -/
def halfL {α : Type} (a m : Nat) (l : List α) : List α := (List.range m).filterMap (fun i => l[2 * i + a]?)
theorem vals_pick {xs : List V} {us : List Value} (r : Vals xs us) : ∀ is : List Nat, Vals (is.filterMap (fun i => xs[i]?)) (is.filterMap (fun i => us[i]?))
  | [] => .nil
  | i :: is => by
    have ih := vals_pick r is
    rw [List.filterMap_cons, List.filterMap_cons]
    cases e : xs[i]? with
    | none =>
      have : us[i]? = none := by
        rw [List.getElem?_eq_none_iff] at e ⊢
        have := r.length; omega
      rw [this]; exact ih
    | some v =>
      obtain ⟨u, hu, ru⟩ := r.get e
      rw [hu]; exact .cons ru ih
theorem half_map {α : Type} (a m : Nat) (l : List α) : halfL a m l = ((List.range m).map (fun i => 2 * i + a)).filterMap (fun i => l[i]?) := by
  unfold halfL; rw [List.filterMap_map]; rfl
theorem pe_half {X : Cx} {e : Expr} {te ts : TE} {tl : TO} {lo : Option Expr} {st : Expr} {p2 pos : Pos} (he : PE X e te) (hl : PO X lo tl) (hst : PE X st ts) (hsub : ∀ v r, subscripted (.Slice lo none (some st) p2) false v r = operate [v, r] (getItem v r)) :
    PE X (.Subscript e (.Slice lo none (some st) p2) pos) (fun σ H Q => te σ H fun x H1 => tl σ H1 fun o H2 => ts σ H2 fun y H3 => ∃ a xs k m, x = .ref a ∧ y = .int 2 ∧ (o = none ∧ k = 0 ∨ o = some 1 ∧ k = 1) ∧ SqT X.K H3 a xs ∧ xs.length = 2 * m ∧ 1 ≤ m ∧ ∀ p, H3 p = none → Q (.ref p) (upd H3 p (.tup (halfL k m xs)))) := by
  refine ⟨fun pins s σ H Q I h => Subscript_ (thn (he.run pins s σ H _ I h) fun v s1 ⟨x, H1, I1, r1, q1⟩ => wpAny_Slice (thn (hl.run pins s1 σ H1 _ I1 q1) fun vl s2 ⟨o, H2, I2, pl, q2⟩ => ?_))⟩
  rw [evalPart_none, evalPart_some]
  refine wpAny_pure (thn (hst.run pins s2 σ H2 _ I2 q2) fun vk s3 ⟨y, H3, I3, ry, a, xs, k, m, ex, ey, hk, hx, hn, hm, q⟩ => ?_)
  subst ex; subst ey
  obtain ⟨tk, rfl⟩ := ry
  cases r1
  have I4 : Inv X pins σ H3 { s3 with heap := s3.heap.push { cls := .type "slice", data := .fields #[vl, .none, .int 2 tk] } } := I3.kept (t' := s3.toks) fun b ob q => Heap.get?_push_of_some _ q
  obtain ⟨its, r, ht, hz⟩ := I4.tuple hx
  have hlen := r.length
  show wpAny (model X.prog X.w) X.A (subscriptTail e (.Slice lo none (some st) p2) (.ref a) (.ref s3.heap.objs.size)) (EP X pins σ Q) X.xe { s3 with heap := s3.heap.push { cls := .type "slice", data := .fields #[vl, .none, .int 2 tk] } }
  refine PyProof.Rows.tail_any (ops := [.ref a, .ref s3.heap.objs.size]) ht.typeIs PyProof.Rows.slot_tuple_getitem.lookup ?_ (hsub _ _)
  refine getItem_tuple_two ht (Heap.IsSliceOf.new ..) pl (.int 2 tk) hk (by rw [List.size_toArray]; omega) hm ?_ (by rw [List.size_toArray]; omega)
  have ep : (List.range m).filterMap (fun (i : Nat) => its.toArray[((k : Int) + (i : Int) * 2).toNat]?) = ((List.range m).map (fun i => 2 * i + k)).filterMap (fun i => its[i]?) := by
    rw [List.filterMap_map]
    congr 1
    funext i
    have : ((k : Int) + (i : Int) * 2).toNat = 2 * i + k := by omega
    rw [this]; simp
  rw [ep]
  refine ⟨.ref _, _, I4.laid (t' := s3.toks) (o := .tup (halfL k m xs)) (fun b ob q => Heap.get?_push_of_some _ q) (Nat.le_refl _) ?_, rfl, q _ (I4.hok.fresh (Nat.le_refl _))⟩
  rw [half_map]
  have hle := List.length_filterMap_le (fun i => xs[i]?) ((List.range m).map (fun i => 2 * i + k))
  rw [List.length_map, List.length_range] at hle
  exact ⟨by omega, _, vals_pick r _, IsTup.new _ _⟩
theorem rpa_pick {K : Frag} {G : Hp} {l : List D} {vs : List V} (r : RpA K G l vs) : ∀ is : List Nat, RpA K G (is.filterMap (fun i => l[i]?)) (is.filterMap (fun i => vs[i]?))
  | [] => RpA.nil
  | i :: is => by
    have ih := rpa_pick r is
    rw [List.filterMap_cons, List.filterMap_cons]
    cases e : l[i]? with
    | none =>
      have : vs[i]? = none := by
        rw [List.getElem?_eq_none_iff] at e ⊢
        have := r.length; omega
      rw [this]; exact ih
    | some v =>
      obtain ⟨u, hu, ru⟩ := r.get e
      rw [hu]; exact RpA.cons ru ih
section
variable {I : Inf} {c : Ct} {ds : List SD} {a : Expr} {pos : Pos}
theorem ev_half {lo : Option Expr} {p1 p2 : Pos} {j} {l : List D} {o : Option Int} {k m : Nat} (ha : EvE I c a ds (· = .tuple l)) (h1 : EvO I c lo ds (· = o)) (hk : o = none ∧ k = 0 ∨ o = some 1 ∧ k = 1) (hn : l.length = 2 * m) (hm : 1 ≤ m) (hsub : ∀ v r, subscripted (.Slice lo none (some (.Constant (.int 2) j p1)) p2) false v r = operate [v, r] (getItem v r) := by intros; with_unfolding_all rfl) :
    EvE I c (.Subscript a (.Slice lo none (some (.Constant (.int 2) j p1)) p2) pos) ds (· = .tuple (halfL k m l)) := fun X F σ G H s Q kk => by
  obtain ⟨tl, pl, ql⟩ := h1 X F
  refine w_pe (pe_half pe_w pl pe_int hsub) ?_
  refine ha X F σ G H s _ fun x G1 H1 d x1 s1 r1 p1 => ql σ G1 H1 s1 _ fun o' G2 H2 x2 s2 p2 => ?_
  subst p1; subst p2
  obtain ⟨a', xs, rfl, hq, hl, r⟩ := (r1.mono x2.g).tup'
  refine ⟨a', xs, k, m, rfl, rfl, hk, by rw [F.K]; exact ex_t s2.ex hq, by rw [r.length]; exact hn, hm, fun p np => ?_⟩
  obtain ⟨s4, x4⟩ := s2.laid (o := .tup (halfL k m xs)) np
  have hle := List.length_filterMap_le (fun i => l[2 * i + k]?) (List.range m)
  rw [List.length_range] at hle
  refine kk _ _ _ _ ((x1.trans x2).trans x4) s4 (.tup (SqT.of upd_same) (by show (halfL k m l).length ≤ _; unfold halfL; omega) ?_) rfl
  have := rpa_pick (r.mono x4.g) ((List.range m).map (fun i => 2 * i + k))
  rw [← half_map, ← half_map] at this
  exact this
end
end Dl


set_option Elab.async false
set_option maxRecDepth 100000
set_option linter.all false
set_option maxHeartbeats 2000000
/-! a call by two keywords; max and min of two ints -/
namespace Dl
open PySem PySem.Spec PyProof.Rows L2
/-- a def with its two parameters by name, the last one first -/
structure FnK2 (I : Inf) (x k1 k2 : Str) (sp : Sp) : Prop where
  ok : ∃ (f : Addr) (fd : FuncData) (ps : List Str) (g : List Value → List Value → List Value) (gV : List V → List V → List V), I.mg x = some (.ref f) ∧ PySem.W.keepIn I.K (.ref f) = true ∧ KBinds I.K fd ps [k1, k2] g gV ∧ (∀ a b, gV [] [a, b] = [b, a]) ∧ FnOk I.prog I.w I.K I.mg I.base CX0 I.k f fd ps sp
section
variable {I : Inf} {c : Ct} {ds : List SD} {e1 e2 : Expr} {P : D → Prop} {pos p q1 q2 : Pos} {d1 d2 : D}
theorem ev_callK2 {x k1 k2 : Str} {Pc : List AD → (D → Prop) → Prop} {R : D → Prop} (hf : FnK2 I x k1 k2 (spD I.K Pc)) (hg : I.sc.names.lookup x = some .globalImplicit)
    (h1 : EvE I c e1 ds (· = d1)) (h2 : EvE I c e2 ds (· = d2)) (hc : Pc [.dat d2, .dat d1] R) (hp : ∀ d, R d → P d)
    (hall : ∀ X, Fits I X → (backToKw pos (keywordEach [⟨some k1, e1, q1⟩, ⟨some k2, e2, q2⟩] X.env)).all (·.1.isSome) = true := by intros; rfl)
    (hks : ∀ X, Fits I X → (backToKw pos (keywordEach [⟨some k1, e1, q1⟩, ⟨some k2, e2, q2⟩] X.env)).filterMap (·.1) = [k1, k2] := by intros; rfl)
    (hdb : (x == ("__debug__" : Str)) = false := by decide)
    (hpl : ∀ X, Fits I X → ((backTo pos (starEach [] X.env)).any (·.1) || (backToKw pos (keywordEach [⟨some k1, e1, q1⟩, ⟨some k2, e2, q2⟩] X.env)).any (·.1.isNone)) = false := by intros; rfl) :
    EvE I c (.Call (.Name x p) [] [⟨some k1, e1, q1⟩, ⟨some k2, e2, q2⟩] pos) ds P := fun X F σ G H s Q k => by
  obtain ⟨f, fd, ps, g, gV, hm, hk, hb, hgV, G0⟩ := hf.ok
  have G1 : FnOk X.prog X.w X.K X.mg X.base CX0 I.k f fd ps (spD I.K Pc) := by rw [F.prog, F.w, F.K, F.mg, F.base]; exact G0
  refine w_pe (pe_callK0 G1 F.room (by show X.env.scope.names.lookup x = _; rw [F.sc]; exact hg) (by rw [F.mg]; exact hm) (by rw [F.K]; exact hk) (by rw [F.K]; exact hb) pass0 (pk_cons pe_w (pk_cons pe_w pk_nil)) (hall X F) (hks X F) hdb (hpl X F)) ?_
  refine h1 X F σ G H s _ fun v1 G1 H1 y1 x1 s1 r1 p1 => h2 X F σ G1 H1 s1 _ fun v2 G2 H2 y2 x2 s2 r2 p2 => ?_
  subst p1; subst p2
  show spD I.K Pc (gV [] [v1, v2]) H2 Q E0
  rw [hgV]
  refine ⟨{ deck := c.Z.deck }, G2, [.dat y2, .dat y1], R, rfl, s2.ex, s2.deck, ⟨v2, _, rfl, r2, v1, _, rfl, Rp.mono x2.g _ r1, rfl⟩, hc, fun v G' H' d t r q => ?_⟩
  obtain ⟨s5, gr⟩ := State.after s2 t rfl (.inr rfl)
  exact k v G' H' d ((x1.trans x2).trans gr) s5 r (hp d q)
end
section
variable {I : Inf} {c : Ct} {ds : List SD} {a b : Expr} {pos p : Pos} {u v r : Int → Prop}
theorem ev_max2 (hg : I.sc.names.lookup ("max" : Str) = some .globalImplicit) (hm : I.mg "max" = none) (ha : EvE I c a ds (IsI u)) (hb : EvE I c b ds (IsI v)) (h : ∀ i j, u i → v j → r (if j > i then j else i))
    (hs1 : ∀ X, Fits I X → starEach [a, b] X.env = (false, eval a X.env) :: starEach [b] X.env := by intros; rfl) (hs2 : ∀ X, Fits I X → starEach [b] X.env = (false, eval b X.env) :: starEach [] X.env := by intros; rfl)
    (hpl : ∀ X, Fits I X → (backTo pos (starEach [b] X.env)).any (·.1) = false := by intros; rfl) : EvE I c (.Call (.Name "max" p) [a, b] [] pos) ds (IsI r) :=
  ev_callB (id := "max") (R := fun l => ∃ i j, l = [.int i, .int j] ∧ u i ∧ v j) (fun X F => call_max2 F.calm) hg hm (by decide +kernel) (ea_consP (R := fun l => ∃ j, l = [.int j] ∧ v j) ha (ea_consP (R := (· = [])) hb ea_nil (fun d l hd hl => by obtain ⟨j, rfl, hj⟩ := hd; subst hl; exact ⟨j, rfl, hj⟩) hs2) (fun d l hd hl => by obtain ⟨i, rfl, hi⟩ := hd; obtain ⟨j, rfl, hj⟩ := hl; exact ⟨i, j, rfl, hi, hj⟩) hs1) (fun l hl σ G H vs s rr Q k => by
    obtain ⟨i, j, rfl, hi, hj⟩ := hl
    obtain ⟨v1, v2, rfl, r1, r2⟩ := rpa2 rr
    rw [r1.int', r2.int']
    exact ⟨i, j, rfl, k.now s .int ⟨_, rfl, h i j hi hj⟩⟩) (he := hs1) (hpl := hpl)
theorem ev_min2 (hg : I.sc.names.lookup ("min" : Str) = some .globalImplicit) (hm : I.mg "min" = none) (ha : EvE I c a ds (IsI u)) (hb : EvE I c b ds (IsI v)) (h : ∀ i j, u i → v j → r (if j < i then j else i))
    (hs1 : ∀ X, Fits I X → starEach [a, b] X.env = (false, eval a X.env) :: starEach [b] X.env := by intros; rfl) (hs2 : ∀ X, Fits I X → starEach [b] X.env = (false, eval b X.env) :: starEach [] X.env := by intros; rfl)
    (hpl : ∀ X, Fits I X → (backTo pos (starEach [b] X.env)).any (·.1) = false := by intros; rfl) : EvE I c (.Call (.Name "min" p) [a, b] [] pos) ds (IsI r) :=
  ev_callB (id := "min") (R := fun l => ∃ i j, l = [.int i, .int j] ∧ u i ∧ v j) (fun X F => call_min2 F.calm) hg hm (by decide +kernel) (ea_consP (R := fun l => ∃ j, l = [.int j] ∧ v j) ha (ea_consP (R := (· = [])) hb ea_nil (fun d l hd hl => by obtain ⟨j, rfl, hj⟩ := hd; subst hl; exact ⟨j, rfl, hj⟩) hs2) (fun d l hd hl => by obtain ⟨i, rfl, hi⟩ := hd; obtain ⟨j, rfl, hj⟩ := hl; exact ⟨i, j, rfl, hi, hj⟩) hs1) (fun l hl σ G H vs s rr Q k => by
    obtain ⟨i, j, rfl, hi, hj⟩ := hl
    obtain ⟨v1, v2, rfl, r1, r2⟩ := rpa2 rr
    rw [r1.int', r2.int']
    exact ⟨i, j, rfl, k.now s .int ⟨_, rfl, h i j hi hj⟩⟩) (he := hs1) (hpl := hpl)
end
end Dl


set_option Elab.async false
set_option maxRecDepth 100000
set_option linter.all false
set_option maxHeartbeats 2000000
/-! sorted, of lists and tuples of data: alike ones, or tuples whose first items decide -/
namespace Dl
open PySem PySem.Spec PyProof.Rows L2 PySem.W
/-- tuples that can be told apart by their first items -/
structure Heads {β : Type} (bs : List β) (enc hd : β → D) : Prop where
  tup : ∀ b, ∃ r, enc b = .tuple (hd b :: r)
  al : ∀ b ∈ bs, ∀ b' ∈ bs, alike (hd b) (hd b') = true
  no : ∀ b ∈ bs, hd b ≠ .none
  one : ∀ b ∈ bs, ∀ b' ∈ bs, PyData.eqv (hd b) (hd b') = true → enc b = enc b'
  self : ∀ b ∈ bs, alike (enc b) (enc b) = true
noncomputable def headKind {β : Type} (h : Heap) (bs : List β) (enc hd : β → D) : PyProof.Rows.KeyKind where
  toKeyOrd := listOrd itemOrd
  keyOf v := open Classical in if q : ∃ b, b ∈ bs ∧ ∃ as, Reads h v (enc b) as then some (keyToks (hd q.choose)) else none
  dflt := ([] : List (Int ⊕ List Nat))
section
variable {β : Type} {h : Heap} {bs : List β} {enc hd : β → D}
theorem head_reads {v : Value} {x : D} {r : List D} {as : List Addr} (q : Reads h v (.tuple (x :: r)) as) : ∃ (a : Addr) (o : Obj) (xs : Array Value) (n : Nat) (f : Value) (fr : List Value) (bs : List Addr), v = .ref a ∧ h.get? a = some o ∧ o.cls = .type "tuple" ∧ o.data = .seq xs n ∧ xs.toList = f :: fr ∧ Reads h f x bs := by
  cases q with
  | @tuple a o xs n _ _ ho hc hd hr =>
    cases q : xs.toList with
    | nil => rw [q] at hr; cases hr
    | cons f fr =>
      rw [q] at hr
      cases hr with
      | cons r1 r2 => exact ⟨a, o, xs, n, f, fr, _, rfl, ho, hc, hd, q, r1⟩
theorem head_unique (H : Heads bs enc hd) {v : Value} {b b' : β} {as as' : List Addr} (hb : b ∈ bs) (hb' : b' ∈ bs) (r : Reads h v (enc b) as) (r' : Reads h v (enc b') as') : hd b = hd b' := by
  obtain ⟨t, e⟩ := H.tup b
  obtain ⟨t', e'⟩ := H.tup b'
  rw [e] at r; rw [e'] at r'
  obtain ⟨a, o, xs, n, f, fr, bs1, h1, h2, h3, h4, h5, h6⟩ := head_reads r
  obtain ⟨a', o', xs', n', f', fr', bs2, k1, k2, k3, k4, k5, k6⟩ := head_reads r'
  rw [h1] at k1; cases k1
  rw [h2] at k2; cases k2
  rw [h4] at k4; cases k4
  rw [h5] at k5; cases k5
  exact alike_unique _ _ _ _ _ (H.al b hb b' hb') h6 k6
theorem headKind_some (H : Heads bs enc hd) {v : Value} {b : β} {as : List Addr} (hb : b ∈ bs) (r : Reads h v (enc b) as) : (headKind h bs enc hd).keyOf v = some (keyToks (hd b)) := by
  have q : ∃ b, b ∈ bs ∧ ∃ as, Reads h v (enc b) as := ⟨b, hb, as, r⟩
  have e : (headKind h bs enc hd).keyOf v = some (keyToks (hd q.choose)) := by
    show (open Classical in if q : ∃ b, b ∈ bs ∧ ∃ as, Reads h v (enc b) as then some (keyToks (hd q.choose)) else none) = _
    rw [dif_pos q]
  obtain ⟨h1, as', h2⟩ := q.choose_spec
  rw [e, head_unique H h1 hb h2 r]
theorem headKind_inv {v : Value} {k : List (Int ⊕ List Nat)} (e : (headKind h bs enc hd).keyOf v = some k) : ∃ b as, b ∈ bs ∧ Reads h v (enc b) as ∧ k = keyToks (hd b) := by
  by_cases q : ∃ b, b ∈ bs ∧ ∃ as, Reads h v (enc b) as
  · have e' : (headKind h bs enc hd).keyOf v = some (keyToks (hd q.choose)) := by
      show (open Classical in if q : ∃ b, b ∈ bs ∧ ∃ as, Reads h v (enc b) as then some (keyToks (hd q.choose)) else none) = _
      rw [dif_pos q]
    obtain ⟨h1, as', h2⟩ := q.choose_spec
    rw [e'] at e
    exact ⟨_, as', h1, h2, (Option.some.inj e).symm⟩
  · have e' : (headKind h bs enc hd).keyOf v = none := by
      show (open Classical in if q : ∃ b, b ∈ bs ∧ ∃ as, Reads h v (enc b) as then some (keyToks (hd q.choose)) else none) = _
      rw [dif_neg q]; rfl
    rw [e'] at e; cases e
end
section
variable {prog : Program} {w : World} {A : Around} {s : Shared} {β : Type} {bs : List β} {enc hd : β → D}
theorem each_heads {h : Heap} (H : ∀ b, ∃ r, enc b = .tuple (hd b :: r)) : ∀ {vs : List Value} {bs : List β}, EachIs (fun v b => ∃ as, Reads h v (enc b) as) vs bs → ∃ fs, KatTups h vs fs ∧ fs.length = vs.length ∧ ∀ f, f ∈ fs → ∃ b as, b ∈ bs ∧ Reads h f (hd b) as
  | _, _, .nil => ⟨[], KatTups.nil, rfl, fun f hf => absurd hf (by simp)⟩
  | _, _, .cons (b := b) ⟨as, r⟩ t => by
    obtain ⟨fs, h1, h2, h3⟩ := each_heads H t
    obtain ⟨tl, e⟩ := H b
    rw [e] at r
    obtain ⟨a, o, xs, n, f, fr, bs1, rfl, ho, hc, hdd, q, r1⟩ := head_reads r
    have hf : xs[0]? = some f := by rw [← Array.getElem?_toList, q]; rfl
    refine ⟨f :: fs, KatTups.cons ho hc hdd hf h1, by rw [List.length_cons, List.length_cons, h2], fun g hg => ?_⟩
    rcases List.mem_cons.mp hg with rfl | hg
    · exact ⟨b, _, List.mem_cons_self .., r1⟩
    · obtain ⟨b', as', m1, m2⟩ := h3 g hg
      exact ⟨b', as', List.mem_cons_of_mem _ m1, m2⟩
theorem sortsAt_heads {vs : List Value} (e : EachIs (fun v b => ∃ as, Reads s.heap v (enc b) as) vs bs) (H : Heads bs enc hd) (hu : ∀ b, b ∈ bs → A.units + (enc b).depth < cLine) : SortsAt prog w A s (headKind s.heap bs enc hd) vs := by
  have room : ∀ {b : β} {d' : D}, b ∈ bs → A.units + min (enc b).depth d'.depth < cLine := fun {d d'} hd => Nat.lt_of_le_of_lt (Nat.add_le_add_left (Nat.min_le_left _ _) _) (hu d hd)
  refine ⟨fun v hv => ?_, ?_⟩
  · obtain ⟨b, hb, as, r⟩ := e.left v hv
    exact ⟨_, headKind_some H hb r⟩
  · cases bs with
    | nil =>
      cases e
      exact ⟨general', fun E x y a b Q ha _ _ => (by
        obtain ⟨d, _, hd, _⟩ := headKind_inv ha
        exact absurd hd (by simp)), fun h2 => absurd h2 (by simp)⟩
    | cons b₀ bs₀ =>
      refine ⟨tuples' (dataType (hd b₀) != Value.type "tuple"), ?_, fun h2 E Q hq => ?_⟩
      · intro E x y a b Q ha hb hq
        obtain ⟨b1, as, hd1, ra, rfl⟩ := headKind_inv ha
        obtain ⟨b2, as', hd2, rb, rfl⟩ := headKind_inv hb
        obtain ⟨r1, e1⟩ := H.tup b1
        obtain ⟨r2, e2⟩ := H.tup b2
        have hal := H.al b1 hd1 b2 hd2
        have hroom : A.units + min (PyData.tuple (hd b1 :: r1)).depth (PyData.tuple (hd b2 :: r2)).depth < cLine := by rw [← e1, ← e2]; exact room hd1
        have hty : (dataType (hd b₀) != Value.type "tuple") = true → ∀ t, hd b1 ≠ .tuple t := fun hbt t => by
          have q := dataType_alike (H.al b1 hd1 b₀ (List.mem_cons_self ..))
          rw [← q] at hbt
          exact dataType_tuple hbt t
        have key : ∀ {fin : Bool} {vs ws : List Value} {cs ds : List Addr}, ReadsAll s.heap vs (hd b1 :: r1) cs → ReadsAll s.heap ws (hd b2 :: r2) ds → fin = decide ((hd b1 :: r1).length < (hd b2 :: r2).length) → A.units + min (PyData.depthAll (hd b1 :: r1)) (PyData.depthAll (hd b2 :: r2)) < cLine →
            KatLex prog w A (dataType (hd b₀) != Value.type "tuple") fin Q (vs.zip ws) 0 s := by
          intro fin vs ws cs ds q1 q2 hf hu2
          cases hx : PyData.eqv (hd b1) (hd b2) with
          | true =>
            have ee := H.one b1 hd1 b2 hd2 hx
            rw [e1, e2] at ee
            injection ee with ee
            have hs := H.self b1 hd1
            rw [e1] at hs
            have hs' : alikeAll (hd b1 :: r1) (hd b1 :: r1) = true := by simpa [alike] using hs
            rw [← ee] at q2 hf hu2
            refine katLex_alike _ _ 0 _ _ _ _ q1 q2 hs' hu2 (fun hb _ x r t ex => ?_) hf ?_
            · obtain ⟨rfl, rfl⟩ := List.cons.inj ex; exact hty hb t
            · have e3 : hd b1 = hd b2 := (List.cons.inj ee).1
              have hq' : Q (PyProof.Rows.lexLt itemOrd (keyToks (hd b1)) (keyToks (hd b2))) s := hq
              rw [← e3, lex_irrefl] at hq'
              rw [lex_irrefl]; exact hq'
          | false =>
            cases q1 with
            | cons p1 p2 =>
              cases q2 with
              | cons p1' p2' =>
                rw [List.zip_cons_cons]
                refine kat_cons (eqAt_alike _ _ A s _ _ _ _ p1 p1' hal (SeqAt.room_head hu2) prog w _ _ ?_)
                rw [hx]
                refine kat_no (oneLt_alike (fun hbi t => ?_) p1 p1' hal (ne_none_of hal hx) (SeqAt.room_head hu2) hq)
                rw [Bool.and_eq_true] at hbi
                exact hty hbi.1 t
        rw [e1] at ra; rw [e2] at rb
        cases ra with
        | @tuple l o xs n _ _ h1 h2 h3 h4 =>
          cases rb with
          | @tuple l' o' xs' n' _ _ k1 k2 k3 k4 =>
            have n1 : xs.size = (hd b1 :: r1).length := by simpa using SeqAt.ReadsAll.length _ _ _ h4
            have n2 : xs'.size = (hd b2 :: r2).length := by simpa using SeqAt.ReadsAll.length _ _ _ k4
            exact kat_lt h1 h3 k1 k3 (key h4 k4 (by rw [n1, n2]) (by have q := SeqAt.room_in hroom; omega))
      · obtain ⟨fs, t1, t2, t3⟩ := each_heads H.tup e
        refine kat_kind (T := dataType (hd b₀)) t1 (by omega) (fun f hf => ?_) (beq_self_eq_true _) hq
        obtain ⟨b, as, m1, m2⟩ := t3 f hf
        rw [← dataType_alike (H.al b m1 b₀ (List.mem_cons_self ..))]
        exact looks_reads m2
end
/-! sorted of a tuple -/
section
variable {prog : Program} {w : World} {A : Around} {E : Value → Shared → Prop} {s : Shared}
theorem collect_tup {l : Addr} {vs : List Value} {Q : List Value → Shared → Prop} (hl : IsTup s.heap l vs.toArray)
    (h : Q vs { s with heap := (s.heap.push (seqObj "list" #[] 0)).update s.heap.objs.size (Obj.mapSeq (· ++ vs.toArray)) }) (hsz : vs.length ≤ sizeLine) :
    wpAny (model prog w) A (collect (.ref l)) Q E s := by
  obtain ⟨o, ho, hc, n, hd⟩ := id hl
  unfold collect
  refine wpAny_bind (wpAny_runValue (codeAny_builtin entry_proto_collect' ?_))
  show wpAny _ _ (do again (.builtin "list.__iadd__" ⟨[← newList [], .ref l], []⟩)) _ _ s
  refine wpAny_bind (wpAny_newList (wpAny_pure ⟨Code.quiet_builtin _ (by decide +kernel), codeAny_builtin entry_list_iadd' ?_⟩))
  show wpAny _ _ (Builtin.List.listExtendWith (.ref s.heap.objs.size) (.ref l) (.ref s.heap.objs.size)) _ _ { s with heap := s.heap.push (seqObj "list" #[] 0) }
  unfold Builtin.List.listExtendWith
  have ho' : (s.heap.push (seqObj "list" #[] 0)).get? l = some o := Heap.get?_push_of_some _ ho
  refine wpAny_bind (wpAny_typeOf (T := "tuple") ⟨o, ho', hc⟩ ?_)
  have ht : (Value.type "tuple" == Value.type "tuple") = true := by rfl
  rw [if_pos (by rw [ht]; simp)]
  refine wpAny_bind (listItems_at ho' hd ?_)
  refine wpAny_bind (listItems_at (xs := #[]) (n := 0) (Heap.get?_push_size _ rfl) rfl ?_)
  rw [if_neg (by simp)]
  refine wpAny_bind (listUpdate_at (xs := #[]) (n := 0) (Heap.get?_push_size _ rfl) rfl ?_ (Nat.zero_le _) (by show (#[] ++ vs.toArray).size ≤ sizeLine + 1; simp only [Array.size_append, List.size_toArray, List.length_nil]; omega))
  refine wpAny_pure ?_
  show wpAny (model prog w) A (do
      let o ← load s.heap.objs.size
      match o.data with
      | .seq xs _ => pure xs.toList
      | _ => unsupported "internal:collect") Q E { s with heap := (s.heap.push (seqObj "list" #[] 0)).update s.heap.objs.size (Obj.mapSeq (· ++ vs.toArray)) }
  refine wpAny_bind (wpAny_load (get?_update_seq (Heap.get?_push_size _ rfl) _) ?_)
  show wpAny _ _ (pure ((#[] : Array Value) ++ vs.toArray).toList) Q E _
  rw [show ((#[] : Array Value) ++ vs.toArray).toList = vs by simp]
  exact wpAny_pure h
theorem sorted_of_sortT {l : Addr} {vs : List Value} {Q : Value → Shared → Prop} (hl : IsTup s.heap l vs.toArray) (hL : vs.length ≤ sizeLine)
    (body : ∀ E' : Value → Shared → Prop, wpAny (model prog w) A.in1.in1 (Builtin.«list.sort» ⟨[.ref (s.heap.objs.size + 1)], []⟩) (fun f s' => f = .done (.ret .none) ∧ Q (.ref (s.heap.objs.size + 1)) s') E' { s with heap := copyHeap s.heap vs }) :
    wpAny (model prog w) A (call (.builtin "sorted") [.ref l]) Q E s := by
  refine call_function_entry_kw kind_sorted plain_sorted entry_sorted (args_sorted1 _) ?_
  unfold Builtin.«sorted»
  refine wpAny_bind (m := checkCount "sorted" 1 1 _) (wpAny_pure ?_)
  refine wpAny_bind (collect_tup hl ?_ hL)
  refine wpAny_bind (wpAny_newList ?_ hL)
  have hsz : ((s.heap.push (seqObj "list" #[] 0)).update s.heap.objs.size (Obj.mapSeq (· ++ vs.toArray))).objs.size = s.heap.objs.size + 1 := by
    rw [Heap.size_update, size_push']
  show wpAny _ _ _ _ _ { s with heap := copyHeap s.heap vs }
  rw [hsz]
  refine wpAny_bind (wpAny_holding (wpAny_call_entry_kw slot_list_sort ⟨_, copyHeap_at s.heap vs, rfl⟩ entry_list_sort ?body (args_list_sort _)))
  case body =>
    show wpAny (model prog w) A.in1.in1 (Builtin.«list.sort» ⟨[.ref (s.heap.objs.size + 1)], []⟩) _ _ _
    refine wpAny_mono (body _) (fun f s' hf => ?_) fun _ _ e => e
    obtain ⟨rfl, hq⟩ := hf
    exact ⟨_, rfl, wpAny_pure ⟨_, rfl, hq⟩⟩
end
/-! over the layer -/
/-- how the items of bs come to be in order, by the signs of their keys -/
inductive InOrder {β : Type} (bs : List β) (enc key : β → D) : Prop where
  | alike (h : AllAlike (bs.map enc)) (k : Sortable (bs.map enc)) (e : key = enc)
  | heads (h : Heads bs enc key)
def ordBy {β : Type} (key : β → D) : β → β → Bool := sortLe (listOrd itemOrd) false fun b => keyToks (key b)
section
variable {X : Cx} {G : Hp}
def RelD {β : Type} (K : Frag) (G : Hp) (enc : β → D) : Value → β → Prop := fun u b => ∃ x, RelV x u ∧ Rp K G (enc b) x
theorem each_of_rpa {K : Frag} {β : Type} {enc : β → D} : ∀ {bs : List β} {xs : List V} {vs : List Value}, RpA K G (bs.map enc) xs → Vals xs vs → EachIs (RelD K G enc) vs bs
  | [], xs, vs, h, r => by
    have : xs = [] := by have := h.length; exact List.eq_nil_of_length_eq_zero this
    subst this; cases r; exact .nil
  | b :: bs, xs, vs, h, r => by
    obtain ⟨v, ws, rfl, h1, h2⟩ := RpA.inv (d := enc b) (ds := bs.map enc) h
    cases r with
    | cons r1 r2 => exact .cons ⟨v, r1, h1⟩ (each_of_rpa h2 r2)
theorem rpa_of_each {K : Frag} {β : Type} {enc : β → D} : ∀ {bs : List β} {vs : List Value}, EachIs (RelD K G enc) vs bs → ∃ xs, Vals xs vs ∧ RpA K G (bs.map enc) xs
  | _, _, .nil => ⟨[], .nil, .nil⟩
  | _, _, .cons ⟨x, r, h⟩ t => by
    obtain ⟨xs, h1, h2⟩ := rpa_of_each t
    exact ⟨x :: xs, .cons r h1, .cons h h2⟩
def rSortD (K : Frag) : List V → Hp → VK → Prop := fun vs H Q => ∃ (a : Addr) (xs : List V) (G : Hp) (β : Type) (bs : List β) (enc key : β → D), vs = [.ref a] ∧ (SqL K H a xs ∨ SqT K H a xs) ∧ Ex G H ∧ RpA K G (bs.map enc) xs ∧ InOrder bs enc key ∧ bs.length ≤ Lm ∧ (∀ b ∈ bs, (enc b).depth ≤ 40) ∧
  ∀ ys p, RpA K G ((bs.mergeSort (ordBy key)).map enc) ys → H p = none → Q (.ref p) (upd H p (.lst ys))
theorem cr_sortD (hu : X.A.units + 64 < cLine) : CallR X (.builtin "sorted") (rSortD X.K) := by
  intro pins s σ H vs us Q I r h
  obtain ⟨a, xs, G, β, bs, enc, key, rfl, hs, ex, hr, ho, hl, hd, q⟩ := h
  rw [Vals.ref1 r]
  have hL : bs.length ≤ sizeLine := Lm_le hl
  have main : ∀ its : List Value, Vals xs its → (∀ κ, SortsAt X.prog X.w X.A.in1.in1 { s with heap := sortingHeap (copyHeap s.heap its) (s.heap.objs.size + 1) its } κ its → EachIs (RelD X.K G enc) (sortVals κ false its its) (bs.mergeSort (ordBy key)) →
      wpAny (model X.prog X.w) X.A (call (.builtin "sorted") [.ref a]) (EP X pins σ Q) X.xe s) → wpAny (model X.prog X.w) X.A (call (.builtin "sorted") [.ref a]) (EP X pins σ Q) X.xe s := by
    intro its rv go
    have e := each_of_rpa hr rv
    have er : EachIs (fun v b => ∃ as, Reads s.heap v (enc b) as) its bs := e.mono fun v b ⟨x, r1, r2⟩ => reads_of I ex _ r2 r1
    have er' : EachIs (fun v b => ∃ as, Reads (sortingHeap (copyHeap s.heap its) (s.heap.objs.size + 1) its) v (enc b) as) its bs := er.mono fun _ _ ⟨as, r⟩ => ⟨as, PyProof.Rows.Reads.keeps (fun _ _ => sorting_copy_old) r⟩
    have hroom : ∀ b, b ∈ bs → X.A.in1.in1.units + (enc b).depth < cLine := fun b hb => by
      have := hd b hb
      show X.A.units + 1 + 1 + _ < _
      omega
    rcases ho with ⟨hal, hk, rfl⟩ | hh
    · exact go (dataKind _ (bs.map key)) (SortsAt.data (s := { s with heap := sortingHeap (copyHeap s.heap its) (s.heap.objs.size + 1) its }) (each_map (R := fun v d => ∃ as, Reads (sortingHeap (copyHeap s.heap its) (s.heap.objs.size + 1) its) v d as) key er') hal hk (bound_map hroom)) (sortVals_data false e er' hal)
    · exact go (headKind _ bs enc key) (sortsAt_heads (s := { s with heap := sortingHeap (copyHeap s.heap its) (s.heap.objs.size + 1) its }) er' hh hroom)
        (sortVals_each (κ := headKind (sortingHeap (copyHeap s.heap its) (s.heap.objs.size + 1) its) bs enc key) (fun b => keyToks (key b)) e ((each_mem er').mono fun v b ⟨⟨as, r⟩, hb⟩ => headKind_some hh hb r))
  have fin : ∀ (its : List Value) (κ : PyProof.Rows.KeyKind), Vals xs its → EachIs (RelD X.K G enc) (sortVals κ false its its) (bs.mergeSort (ordBy key)) → EP X pins σ Q (.ref (s.heap.objs.size + 1)) { s with heap := sortedAll s.heap its (sortVals κ false its its).toArray } := by
    intro its κ rv e
    obtain ⟨ys, y1, y2⟩ := rpa_of_each e
    obtain ⟨ep, he'⟩ := PyProof.Rows.sortedAll_at s.heap its (sortVals κ false its its).toArray
    have hlen : ys.length ≤ sizeLine := by
      rw [y2.length, List.length_map, (List.mergeSort_perm ..).length_eq]; exact hL
    exact ⟨.ref _, upd H (s.heap.objs.size + 1) (.lst ys), I.laid (t' := s.toks) (fun _ _ => PyProof.Rows.sortedAll_old) (Nat.le_succ _) ⟨hlen, _, ep, y1, he'⟩, rfl, q _ _ y2 (I.hok.fresh (Nat.le_succ _))⟩
  rcases hs with hs | hs
  · obtain ⟨its, rv, hli, hz⟩ := I.list hs
    exact main its rv fun κ S e => sorted_vals hli.isList S (by rw [← rv.length]; exact hz) (fin its κ rv e)
  · obtain ⟨its, rv, hli, hz⟩ := I.tuple hs
    exact main its rv fun κ S e => sorted_of_sortT hli (by rw [← rv.length]; exact hz) fun _ => list_sort_vals (s := { s with heap := copyHeap s.heap its }) (copyHeap_at s.heap its) S (by rw [← rv.length]; exact hz) ⟨rfl, fin its κ rv e⟩
end
section
variable {I : Inf} {c : Ct} {ds : List SD} {e : Expr} {pos p : Pos}
/-- sorted(e), e a list or a tuple of data: a fresh list -/
theorem ef_sorted {β : Type} {bs : List β} {enc key : β → D} (hg : I.sc.names.lookup ("sorted" : Str) = some .globalImplicit) (hm : I.mg "sorted" = none) (ho : InOrder bs enc key) (hl : bs.length ≤ Lm) (hd : ∀ b ∈ bs, (enc b).depth ≤ 40) (ha : EvE I c e ds (fun d => d = .list (bs.map enc) ∨ d = .tuple (bs.map enc)))
    (hs : ∀ X, Fits I X → starEach [e] X.env = (false, eval e X.env) :: starEach [] X.env := by intros; rfl) (hpl : ∀ X, Fits I X → (backTo pos (starEach [] X.env)).any (·.1) = false := by intros; rfl) :
    EvF I c (.Call (.Name "sorted" p) [e] [] pos) ds (· = (bs.mergeSort (ordBy key)).map enc) := fun X F σ G H s Q k => by
  have hb : bootBuiltins ("sorted" : Str) = some (.builtin "sorted") := by decide +kernel
  have cr : CallR X (.builtin "sorted") (rSortD I.K) := by have := cr_sortD (X := X) F.room.units; rw [F.K] at this; exact this
  refine w_pe (pe_callB cr (by show X.env.scope.names.lookup _ = _; rw [F.sc]; exact hg) (by rw [F.mg]; exact hm) hb (pa_cons pe_w pa_nil (hs X F)) (by decide) (by decide) (hs X F) (hpl X F)) ?_
  refine ha X F σ G H s _ fun v G1 H1 d x1 s1 r1 p1 => ?_
  obtain ⟨a, xs, rfl, hq, hr⟩ : ∃ a xs, v = V.ref a ∧ (SqL I.K H1 a xs ∨ SqT I.K H1 a xs) ∧ RpA I.K G1 (bs.map enc) xs := by
    rcases p1 with rfl | rfl
    · obtain ⟨a, xs, rfl, h1, _, h3⟩ := r1.lst'
      exact ⟨a, xs, rfl, .inl (SqL.of (s1.ex _ _ h1)), h3⟩
    · obtain ⟨a, xs, rfl, h1, _, h3⟩ := r1.tup'
      exact ⟨a, xs, rfl, .inr (ex_t s1.ex h1), h3⟩
  refine ⟨a, xs, G1, β, bs, enc, key, rfl, hq, s1.ex, hr, ho, hl, hd, fun ys q hy hq0 => ?_⟩
  have hqH : H q = none := by
    cases z : H q with
    | none => rfl
    | some o => exact absurd hq0 (x1.dom q (by rw [z]; exact fun z => nomatch z))
  refine k q ys G1 _ _ (x1.trans ⟨Ex.refl G1, fun b o h _ => Ex.new hq0 b o h, fun b hb => .inl hb, fun b hb => ?_⟩) (s1.aside hq0) hqH (s1.gnone hq0) (s1.ndeck hq0) (by rw [List.length_map, (List.mergeSort_perm ..).length_eq]; exact hl) upd_same hy rfl
  by_cases z : b = q
  · rw [z, upd_same]; exact fun z => nomatch z
  · rw [upd_ne z]; exact hb
end
end Dl


set_option Elab.async false
set_option maxRecDepth 100000
set_option linter.all false
set_option maxHeartbeats 2000000
/-! comprehensions of two clauses; owned lists: pop, extend, truth; a side of two; calls where nothing is written out -/
namespace Dl
open PySem PySem.Spec PyProof.Rows L2
section
variable {I : Inf} {c : Ct} {ds : List SD} {A : After} {a b e : Expr} {P : D → Prop} {pos : Pos} {d : D}
/-! truth of lists -/
theorem et_truO {i : Nat} {x : Str} {l : List D} {p : Pos} (hN : I.N[i]? = some x) (hv : Vis I.sc x) (ho : ds[i]? = some (.own l)) (h1 : (x == ("__debug__" : Str)) = false := by decide) (h2 : (x == ("__classdict__" : Str)) = false := by decide)
    (he : ∀ X, Fits I X → ∀ whole, isTrue (.Name x p) X.env whole = (do let v ← whole; standAt (Expr.Name x p).pos; holding [v] (truthy v)) := by intros; rfl) :
    EvT I c (.Name x p) ds (· = !l.isEmpty) := fun X F σ G H s Q k => by
  refine w_pt (pt_truth (pe_var (i := i) (by rw [F.N]; exact hN) (by rw [F.sc]; exact hv) h1 h2) (he X F)) ?_
  obtain ⟨q, xs, e1, h0, h3, h4, h5, h6, h7⟩ := own_at s ho
  have hl := h7.length
  refine ⟨.ref q, e1, !xs.isEmpty, .inl ⟨xs, SqL.of h6, rfl⟩, ?_⟩
  have e0 : xs.isEmpty = l.isEmpty := by
    cases xs with
    | nil => cases l with | nil => rfl | cons _ _ => simp at hl
    | cons _ _ => cases l with | nil => simp at hl | cons _ _ => rfl
  rw [e0]
  exact k _ G H Gr.refl s rfl
theorem ev_notL {l : List D} (h : EvE I c e ds (· = .list l)) : EvE I c (.UnaryOp .Not e pos) ds (· = .bool l.isEmpty) := fun X F σ G H s Q k => by
  refine w_pe (pe_notT pe_w) (h X F σ G H s _ fun v G1 H1 d x1 s1 r1 p1 => ?_)
  subst p1
  obtain ⟨q, xs, rfl, h1, _, h3⟩ := r1.lst'
  have hl := h3.length
  refine ⟨!xs.isEmpty, .inl ⟨xs, SqL.of (s1.ex _ _ h1), rfl⟩, (k.mono x1).now s1 .bl ?_⟩
  have e0 : xs.isEmpty = l.isEmpty := by
    cases xs with
    | nil => cases l with | nil => rfl | cons _ _ => simp at hl
    | cons _ _ => cases l with | nil => simp at hl | cons _ _ => rfl
  rw [e0]; cases l <;> rfl
/-- y = x.pop(), x an owned list -/
theorem rs_popSet {i iy : Nat} {x y : Str} {l : List D} {p p1 p2 p3 : Pos} (hN : I.N[i]? = some x) (hv : Vis I.sc x) (ho : ds[i]? = some (.own (l ++ [d]))) (hy : Sto I iy y) (hn : A.nx ((ds.set i (.own l)).set iy (.dat d)))
    (h1 : (x == ("__debug__" : Str)) = false := by decide) (h2 : (x == ("__classdict__" : Str)) = false := by decide) (hline : (p2.endLine == p3.line) = true := by rfl)
    (hs : ∀ X, Fits I X → swapsWith (.Call (.Attribute (.Name x p1) ("pop" : Str) p2) [] [] p3) (some (.Name y p)) pos.line X.env = pure false := by intros; rfl)
    (hbase : ∀ X, Fits I X → attributeBase (.Name x p1) ("pop" : Str) X.env (eval (.Name x p1) X.env) = eval (.Name x p1) X.env := by intros; rfl) :
    RunS I c (.Assign [.Name y p] (.Call (.Attribute (.Name x p1) ("pop" : Str) p2) [] [] p3) pos) ds A := fun X F σ G H E s k => by
  refine w_ps (ps_set (i := iy) (by rw [F.N]; exact F.nd) (by rw [F.N]; exact hy.at_) (by rw [F.sc]; exact hy.loc) (pe_bm0 PySem.F.plainAttrs_list PySem.F.slot_list_pop PySem.F.type_list_pop mt_pop (pe_var (i := i) (by rw [F.N]; exact hN) (by rw [F.sc]; exact hv) h1 h2) (hbase X F) hline) (hs X F) (hy.fn F)) ?_
  obtain ⟨q, xs, e1, h0, h3, h4, h5, h6, h7⟩ := own_at s ho
  have hl := h7.length
  rw [List.length_append] at hl h5
  simp only [List.length_singleton] at hl h5
  obtain ⟨v, g1, g2⟩ := h7.get (i := l.length) (d := d) (by rw [List.getElem?_append_right (by omega)]; simp)
  have hd : xs.dropLast = xs.take l.length := by rw [List.dropLast_eq_take]; congr 1; omega
  have ht := h7.take l.length
  rw [List.take_left'] at ht
  · rw [← hd] at ht
    refine ⟨.ref q, e1, .inl ⟨rfl, xs, SqL.of h6⟩, q, xs, v, rfl, rfl, h6, by rw [show xs.length - 1 = l.length by omega]; exact g1, ?_⟩
    have s2 := own_put s ho e1 ht (by omega)
    exact k.nx _ G _ _ (Ex.refl G) (State.set s2 (i := iy) (sd := .dat d) rfl ⟨v, rfl, g2⟩) hn
  · rfl
/-- x.extend(e), e a list -/
theorem rs_extendL {i : Nat} {x : Str} {l : List D} {p p2 p3 p4 : Pos} {PL : List D → Prop} (hN : I.N[i]? = some x) (hv : Vis I.sc x) (ho : ds[i]? = some (.own l)) (h : EvE I c e ds (fun d => ∃ m, d = .list m ∧ PL m)) (hl : ∀ m, PL m → l.length + m.length ≤ Lm) (hn : ∀ m, PL m → A.nx (ds.set i (.own (l ++ m))))
    (h1 : (x == ("__debug__" : Str)) = false := by decide) (h2 : (x == ("__classdict__" : Str)) = false := by decide)
    (hsx : ∀ X, Fits I X → starEach [e] X.env = (false, eval e X.env) :: starEach [] X.env := by intros; rfl) (hline : (p2.endLine == p3.line) = true := by rfl)
    (hfew : ∀ X, Fits I X → ((((backTo p3 (starEach [e] X.env)).all fun x => !x.fst) && (backToKw p3 (keywordEach [] X.env)).all fun x => x.fst.isSome) && decide (([e].length + ([] : List Keyword).length + if ([] : List Keyword).isEmpty = true then 0 else 1) < 30)) = true := by intros; rfl)
    (hse : ∀ X, Fits I X → swapsWith (.Call (.Attribute (.Name x p) ("extend" : Str) p2) [e] [] p3) none p4.line X.env = pure false := by intros; rfl) :
    RunS I c (.Expr (.Call (.Attribute (.Name x p) ("extend" : Str) p2) [e] [] p3) p4) ds A := fun X F σ G H E s k => by
  have go : PE X (.Call (.Attribute (.Name x p) ("extend" : Str) p2) [e] [] p3) _ := pe_bm PySem.F.plainAttrs_list PySem.F.slot_list_extend PySem.F.type_list_extend mt_extend (pe_var (i := i) (by rw [F.N]; exact hN) (by rw [F.sc]; exact hv) h1 h2) (pa_cons (pe_w (e := e)) pa_nil (hsx X F)) (hfew := hfew X F) (hline := hline) (hs := hsx X F)
  refine w_ps (ps_expr go (hse X F)) ?_
  obtain ⟨q, xs, e1, h0, h3, h4, h5, h6, h7⟩ := own_at s ho
  refine ⟨.ref q, e1, .inl ⟨rfl, xs, SqL.of h6⟩, h X F σ G H s _ fun v G1 H1 d x1 s1 r1 p1 => ?_⟩
  obtain ⟨m, rfl, hm⟩ := p1
  obtain ⟨ys, g1, g2, g3⟩ := own_same s s1 ho e1
  obtain ⟨a, zs, rfl, t1, t2, t3⟩ := r1.lst'
  have hlen := hl m hm
  refine ⟨q, a, ys, zs, rfl, rfl, g1, s1.ex _ _ t1, by rw [g2.length, t3.length]; exact Nat.le_of_lt (Lm_lt hlen), ?_⟩
  exact k.nx σ G1 _ _ x1.g (own_put s1 ho e1 (g2.append t3) (by rw [List.length_append]; exact hlen)) (hn m hm)
/-- s = x if t else y, both owned; s.append(z) -/
theorem run_side {i j m n : Nat} {x y sd z : Str} {l r : List D} {t : Expr} {PT : Bool → Prop} {rest : List Stmt} {p1 p2 p3 p4 p5 q1 q2 q3 q4 q5 : Pos} (hNx : I.N[i]? = some x) (hvx : Vis I.sc x) (hox : ds[i]? = some (.own l)) (hNy : I.N[j]? = some y) (hvy : Vis I.sc y) (hoy : ds[j]? = some (.own r))
    (hS : Sto I m sd) (hvs : Vis I.sc sd) (hm : m < ds.length) (hNz : I.N[n]? = some z) (hvz : Vis I.sc z) (hdz : ds[n]? = some (.dat d)) (him : i ≠ m) (hjm : j ≠ m) (hnm : n ≠ m) (hl : l.length < Lm) (hr : r.length < Lm)
    (ht : EvT I c t ds PT) (h1 : PT true → Run I c rest ((ds.set m .un).set i (.own (l ++ [d]))) A) (h2 : PT false → Run I c rest ((ds.set m .un).set j (.own (r ++ [d]))) A)
    (a1 : (x == ("__debug__" : Str)) = false := by decide) (a2 : (x == ("__classdict__" : Str)) = false := by decide) (b1 : (y == ("__debug__" : Str)) = false := by decide) (b2 : (y == ("__classdict__" : Str)) = false := by decide)
    (c1 : (sd == ("__debug__" : Str)) = false := by decide) (c2 : (sd == ("__classdict__" : Str)) = false := by decide) (d1 : (z == ("__debug__" : Str)) = false := by decide) (d2 : (z == ("__classdict__" : Str)) = false := by decide)
    (hsw : ∀ X, Fits I X → swapsWith (.IfExp t (.Name x p1) (.Name y p2) p3) (some (.Name sd p4)) p5.line X.env = pure false := by intros; rfl) (hline : (q2.endLine == q4.line) = true := by rfl)
    (hse : ∀ X, Fits I X → swapsWith (.Call (.Attribute (.Name sd q1) ("append" : Str) q2) [.Name z q3] [] q4) none q5.line X.env = pure false := by intros; rfl) :
    Run I c (.Assign [.Name sd p4] (.IfExp t (.Name x p1) (.Name y p2) p3) p5 :: .Expr (.Call (.Attribute (.Name sd q1) ("append" : Str) q2) [.Name z q3] [] q4) q5 :: rest) ds A := fun X F σ G H E s k => by
  have hND : X.N.Nodup := by rw [F.N]; exact F.nd
  have var : ∀ {i : Nat} {x : Str} {p : Pos}, I.N[i]? = some x → Vis I.sc x → (x == ("__debug__" : Str)) = false → (x == ("__classdict__" : Str)) = false → PE X (.Name x p) (tVar i) := fun {i x p} u1 u2 u3 u4 => pe_var (i := i) (by rw [F.N]; exact u1) (by rw [F.sc]; exact u2) u3 u4
  refine w_pss (pss_cons (ps_set (i := m) hND (by rw [F.N]; exact hS.at_) (by rw [F.sc]; exact hS.loc) (pe_ifExp pt_w (var hNx hvx a1 a2) (var hNy hvy b1 b2)) (hsw X F) (hS.fn F))
    (pss_cons (ps_expr (pe_bm PySem.F.plainAttrs_list PySem.F.slot_list_append PySem.F.type_list_append mt_append (var hS.at_ hvs c1 c2) (pa_cons (var hNz hvz d1 d2) pa_nil) (hline := hline)) (hse X F)) pss_w)) ?_
  refine ht X F σ G H s _ fun b' G1 H1 x1 s1 p1 => ?_
  have hms : m < σ.length := by rw [s1.len]; exact hm
  have fin : ∀ {u : Nat} {lu : List D}, ds[u]? = some (.own lu) → u ≠ m → lu.length < Lm → (Run I c rest ((ds.set m .un).set u (.own (lu ++ [d]))) A) → ∃ v, σ[u]? = some (some v) ∧ gName m v σ H1 (fun σ2 H2 => ∃ v2, σ2[m]? = some (some v2) ∧ ((v2 = v ∧ (∃ q, v = .ref q) ∧ ∀ q, v = .ref q → ∃ xs, H2 q = some (.lst xs) ∧ xs.length < sizeLine ∧ ∃ w, σ2[n]? = some (some w) ∧ wSs X rest E σ2 (upd H2 q (.lst (xs ++ [w])))))) := by
    intro u lu hu hum hul hrun
    obtain ⟨q, xs, e1, h0, h3, h4, h5, h6, h7⟩ := own_at s1 hu
    refine ⟨.ref q, e1, ?_⟩
    refine ⟨.ref q, by rw [List.getElem?_set_self hms], rfl, ⟨q, rfl⟩, fun q' hq' => ?_⟩
    cases hq'
    obtain ⟨w, w1, w2⟩ := s1.slots n _ hdz
    have w1' : σ[n]? = some (some w) := by
      cases zz : σ[n]? with
      | none => rw [zz] at w1; cases w1
      | some o => rw [zz] at w1; simpa using w1
    refine ⟨xs, h6, by rw [h7.length]; exact Lm_lt (Nat.le_of_lt hul), w, by rw [List.getElem?_set_ne (Ne.symm hnm)]; exact w1', ?_⟩
    have s2 : S I c G1 H1 (σ.set m (some (.ref q))) (ds.set m .un) := State.set s1 (i := m) (v := .ref q) (sd := .un) rfl trivial
    have s3 := own_put (l' := lu ++ [d]) s2 (by rw [List.getElem?_set_ne (Ne.symm hum)]; exact hu) (by rw [List.getElem?_set_ne (Ne.symm hum)]; exact e1) (h7.append (.cons w2 .nil)) (by rw [List.length_append]; exact hul)
    exact hrun X F _ G1 _ E s3 (k.mono x1.g)
  cases b' with
  | true =>
    refine iteT ?_
    obtain ⟨v, v1, v2, v3, rfl, ⟨q, rfl⟩, v4⟩ := fin hox him hl (h1 p1)
    obtain ⟨xs, g1, g2, w, g3, g4⟩ := v4 q rfl
    exact ⟨_, v1, _, v3, .inl ⟨rfl, xs, SqL.of g1⟩, w, g3, q, xs, w, rfl, rfl, g1, g2, g4⟩
  | false =>
    refine iteF ?_
    obtain ⟨v, v1, v2, v3, rfl, ⟨q, rfl⟩, v4⟩ := fin hoy hjm hr (h2 p1)
    obtain ⟨xs, g1, g2, w, g3, g4⟩ := v4 q rfl
    exact ⟨_, v1, _, v3, .inl ⟨rfl, xs, SqL.of g1⟩, w, g3, q, xs, w, rfl, rfl, g1, g2, g4⟩
/-- t < u, of tuples of ints -/
theorem et_ltT {ns ms : List Int} (ha : EvE I c a ds (· = .tuple (ns.map PyData.int))) (hb : EvE I c b ds (· = .tuple (ms.map PyData.int))) : EvT I c (.Compare a [.Lt] [b] pos) ds (· = HT.lexLt ns ms) :=
  et_cmp (r := rLtT I.K) (fun X F => by have := op_ltT (X := X) (Nat.lt_of_le_of_lt (Nat.le_add_right _ _) F.room.units); rw [F.K] at this; exact this) (nobehind _ (by decide) (by decide)) ha hb fun d e hi hj σ G H x y s rx ry Q k => by
    rw [hi] at rx; rw [hj] at ry
    obtain ⟨a1, xs, rfl, h1, _, r1⟩ := rx.tup'
    obtain ⟨a2, ys, rfl, h2, _, r2⟩ := ry.tup'
    rw [RpA.ints] at r1 r2
    subst r1; subst r2
    exact ⟨a1, a2, ns, ms, rfl, rfl, ex_t s.ex h1, ex_t s.ex h2, k.now s .bl rfl⟩
/-- l.index(x), of data -/
theorem ev_indexD {l : List D} {j : Nat} {z : D} {p2 p3 : Pos} (ha : EvE I c a ds (· = .list l)) (hb : EvE I c b ds (· = d)) (sl : SeqAt.shaped (.list l) = true) (sd : SeqAt.shaped d = true) (hz : l[j]? = some z) (hzj : PyData.eqv z d = true) (hno : ∀ (m : Nat) (z' : D), m < j → l[m]? = some z' → PyData.eqv z' d = false)
    (hbase : ∀ X, Fits I X → attributeBase a ("index" : Str) X.env (eval a X.env) = eval a X.env := by intros; rfl)
    (hfew : ∀ X, Fits I X → (((backTo p3 (starEach [b] X.env)).all fun x => !x.1) && (backToKw p3 (keywordEach [] X.env)).all (fun x => x.1.isSome) && decide ([b].length + ([] : List Keyword).length + (if ([] : List Keyword).isEmpty then 0 else 1) < 30)) = true := by intros; rfl)
    (hline : (p2.endLine == p3.line) = true := by rfl) (hs : ∀ X, Fits I X → starEach [b] X.env = (false, eval b X.env) :: starEach [] X.env := by intros; rfl) :
    EvE I c (.Call (.Attribute a ("index" : Str) p2) [b] [] p3) ds (· = .int (j : Nat)) := fun X F σ G H s Q k => by
  refine w_pe (pe_bm PySem.F.plainAttrs_list PySem.F.slot_list_index (by with_unfolding_all rfl) (mt_indexD (by have := F.room.un; omega)) (pe_w (e := a)) (pa_cons (pe_w (e := b)) pa_nil (hs X F)) (hbase := hbase X F) (hfew := hfew X F) (hline := hline) (hs := hs X F)) ?_
  refine ha X F σ G H s _ fun v G1 H1 d' x1 s1 r1 p1 => ?_
  subst p1
  obtain ⟨q, xs, rfl, h1, h2, h3⟩ := r1.lst'
  refine ⟨.inl ⟨rfl, _, SqL.of (s1.ex _ _ h1)⟩, hb X F σ G1 H1 s1 _ fun w G2 H2 d2 x2 s2 r2 p2 => ?_⟩
  subst p2
  refine ⟨q, w, d2, l, j, z, rfl, rfl, by rw [F.K]; exact Rp.dp s2.ex _ (r1.mono x2.g), by rw [F.K]; exact Rp.dp s2.ex _ r2, sl, sd, hz, hzj, hno, (k.mono (x1.trans x2)).now s2 .int rfl⟩
end

/-! ### comprehensions of two clauses -/
section
variable {I : Inf} {c : Ct} {ds : List SD} {pos : Pos} {A : After}
/-- a walk for all that fits, for one of many outer items -/
def uI2 {I : Inf} {c : Ct} {tg iter : Expr} {items : List D} {dsO : D → List SD} {PO : D → List D → Prop} (hw : ∀ d ∈ items, Walk I c tg iter (dsO d) (PO d)) : TI := fun σ H R => ∃ d, ∃ hd : d ∈ items, ∀ (Y : Cx) (F : Fits I Y), (hw d hd Y F).choose σ H R
theorem pi_u {I : Inf} {c : Ct} {tg iter : Expr} {items : List D} {dsO : D → List SD} {PO : D → List D → Prop} (hw : ∀ d ∈ items, Walk I c tg iter (dsO d) (PO d)) {Y : Cx} (F : Fits I Y) : PI Y tg iter (uI2 hw) :=
  ⟨fun pins s σ H R J h => by
    obtain ⟨d, hd, q⟩ := h
    exact ((hw d hd Y F).choose_spec.1).run pins s σ H R J (q Y F)⟩
theorem lc2_read {elt tg1 iter1 : Expr} {scope : Scope} (own : List (Str × Nat)) (vs1 : List Nat) {asg asg1 : D → List (Nat × D) → Prop} {items : List D} (f : D → List D) (g : D → D → D) {wi : TI} {tgt tgt1 : TG} {asO : D → List (Nat × D)}
    {X : Cx} (F : Fits I X) (qi : ∀ σ G H, S I c G H σ ds → ∀ R : It → Hp → Prop, (∀ J G' H' its, Gr c.Z G H G' H' → S I c G' H' σ ds → Yields I.K J G' its → its = items → R J H') → wi σ H R)
    (qg : ∀ (c : Ct) (σ : L2.St) (G H : Hp) (ds : List SD) (v : V) (d : D) (as : List (Nat × D)), S (I.blk scope) c G H σ ds → Rp (I.blk scope).K G d v → asg d as → ∀ Q : L2.St → Hp → Prop,
      (∀ σ2, S (I.blk scope) c G H σ2 (setDs ds as) → (∀ vs, (∀ q ∈ as, q.1 ∈ vs) → L2.wipe σ2 vs = L2.wipe σ vs) → (∀ p, NoOwn σ ds p → NoOwn σ2 (setDs ds as) p) → Q σ2 H) → tgt v σ H Q)
    (qg1 : ∀ (c : Ct) (σ : L2.St) (G H : Hp) (ds : List SD) (v : V) (d : D) (as : List (Nat × D)), S (I.blk scope) c G H σ ds → Rp (I.blk scope).K G d v → asg1 d as → ∀ Q : L2.St → Hp → Prop,
      (∀ σ2, S (I.blk scope) c G H σ2 (setDs ds as) → (∀ vs, (∀ q ∈ as, q.1 ∈ vs) → L2.wipe σ2 vs = L2.wipe σ vs) → (∀ p, NoOwn σ ds p → NoOwn σ2 (setDs ds as) p) → Q σ2 H) → tgt1 v σ H Q)
    (hlen : (items.flatMap fun d => (f d).map (g d)).length ≤ Lm)
    (ha : ∀ d ∈ items, asg d (asO d) ∧ ∀ q ∈ asO d, q.1 ∈ own.map (fun x : Str × Nat => x.2))
    (hw1 : ∀ d ∈ items, Walk (I.blk scope) c tg1 iter1 (setDs (wipeDs ds (own.map (fun x : Str × Nat => x.2))) (asO d)) (· = f d))
    (he : ∀ d ∈ items, ∀ e ∈ f d, ∃ as1, asg1 e as1 ∧ (∀ q ∈ as1, q.1 ∈ vs1) ∧ EvE (I.blk scope) c elt (setDs (wipeDs (setDs (wipeDs ds (own.map (fun x : Str × Nat => x.2))) (asO d)) vs1) as1) (· = g d e))
    (σ : L2.St) (G H : Hp) (s : S I c G H σ ds) (Q : VK)
    (k : ∀ p xs G' H' l, Gr c.Z G H G' H' → S I c G' H' σ ds → H p = none → G' p = none → ¬ inDeck c.Z p → l.length ≤ Lm → H' p = some (.lst xs) → RpA I.K G' l xs → l = (items.flatMap fun d => (f d).map (g d)) → Q (.ref p) H') :
    tLc2 wi tgt (uI (I.blk scope) []) (uI2 hw1) tgt1 (uI (I.blk scope) []) (uE (I.blk scope) elt) (own.map (fun x : Str × Nat => x.2)) vs1 σ H Q := by
  refine qi σ G H s _ fun J G1 H1 its x1 s1 y pl => fun L nL => ?_
  subst pl
  have hL0 : H L = none := by
    cases e : H L with
    | none => rfl
    | some o => exact absurd nL (x1.dom L (by rw [e]; exact fun z => nomatch z))
  have no : NoOwn σ ds L := s1.noOwn nL
  have ndk : ¬ inDeck c.Z L := S.ndeck s1 nL
  have h00 : c.H0 L = none := S.h0none s1 nL
  have gL : G1 L = none := S.gnone s1 nL
  have ntI : ∀ {Z : Cx} (FZ : Fits (I.blk scope) Z) {σ' : L2.St} {H' : Hp} {R : Bool → Hp → Prop}, R true H' → wI Z [] σ' H' R := fun {Z} FZ {σ' H' R} h pins sh J => (pts_nil (X := Z)).run pins sh σ' H' R J h
  refine ⟨fun i m H' => m = its.length - i ∧ i ≤ its.length ∧ ∃ G' acc, Gr c.Z G1 H1 G' H' ∧ S I c G' H' σ ds ∧ G' L = none ∧ H' L = some (.lst acc) ∧ RpA I.K G' ((its.take i).flatMap fun d => (f d).map (g d)) acc,
    ⟨its.length, rfl, Nat.zero_le _, G1, [], ⟨Ex.refl _, fun a o h z => by rw [upd_ne (ne_of_none h nL)]; exact h, fun p h => .inl h, fun p h z => ?_⟩, State.aside s1 nL, gL, upd_same, by simp; exact .nil⟩, ?_⟩
  · by_cases e : p = L
    · rw [e, upd_same] at z; cases z
    · rw [upd_ne e] at z; exact h z
  rintro i m H' ⟨rfl, hile, G', acc, gr, s', hgL, hHL, ra⟩
  obtain ⟨ya, yb⟩ := y c.Z c.G0 c.H0 σ ds G' H' gr.g s'
  -- what stays of L
  have keepL : ∀ {Ga Ha Gb Hb : Hp} {ac : List V}, Gr c.Z Ga Ha Gb Hb → Ga L = none → Ha L = some (.lst ac) → Gb L = none ∧ Hb L = some (.lst ac) := by
    intro Ga Ha Gb Hb ac gr h1 h2
    refine ⟨?_, gr.h _ _ h2 ndk⟩
    cases e : Gb L with
    | none => rfl
    | some o =>
      rcases gr.nw L (by rw [e]; exact fun z => nomatch z) with z | z
      · exact absurd h1 z
      · rw [h2] at z; cases z
  by_cases hlt : i < its.length
  · have hd' : its[i]? = some its[i] := by simp [hlt]
    obtain ⟨go, yl⟩ := ya i _ hd'
    refine .inr ⟨go, fun H2 => ∃ G' acc, Gr c.Z G1 H1 G' H2 ∧ S I c G' H2 σ ds ∧ G' L = none ∧ H2 L = some (.lst acc) ∧ RpA I.K G' ((its.take (i + 1)).flatMap fun d => (f d).map (g d)) acc, fun H2 q => ⟨its.length - (i + 1), by omega, rfl, hlt, q⟩, fun v H2 hy => ?_⟩
    obtain ⟨G2, gr2, s2, r2⟩ := yl v H2 hy
    have hmem : its[i] ∈ its := by simp
    obtain ⟨ha1, hin⟩ := ha its[i] hmem
    have htk : its.take (i + 1) = its.take i ++ [its[i]] := by rw [List.take_add_one, hd']; rfl
    obtain ⟨gL2, hL2⟩ := keepL gr2 hgL hHL
    have sw : S (I.blk scope) c G2 H2 (L2.wipe σ (own.map (fun x : Str × Nat => x.2))) (wipeDs ds (own.map (fun x : Str × Nat => x.2))) := State.wipe s2 (own.map (fun x : Str × Nat => x.2))
    have wkey : ∀ (σ : L2.St) (vs : List Nat), ∀ us : List Nat, (∀ u ∈ us, u ∈ vs) → L2.wipe (L2.wipe σ us) vs = L2.wipe σ vs := by
      intro σ vs us
      induction us with
      | nil => intro _; rfl
      | cons u us ih =>
        intro hu
        show L2.wipe ((L2.wipe σ us).set u none) vs = _
        rw [wipe_set (hu u (by simp)), ih (fun w hw => hu w (by simp [hw]))]
    refine qg c (L2.wipe σ (own.map (fun x : Str × Nat => x.2))) G2 H2 (wipeDs ds (own.map (fun x : Str × Nat => x.2))) v its[i] (asO its[i]) sw r2 ha1 _ fun σ3 s3 hwp hno => ?_
    refine ⟨(hwp (own.map (fun x : Str × Nat => x.2)) hin).trans (wkey σ _ _ (fun u hu => hu)), fun Y FY => ntI FY (iteT ?_)⟩
    have no3 : NoOwn σ3 (setDs (wipeDs ds (own.map (fun x : Str × Nat => x.2))) (asO its[i])) L := hno L (no.wipe _)
    -- the inner walk
    have tri : ∀ R : It → Hp → Prop, (∀ J G' H' l, Gr c.Z G2 H2 G' H' → S (I.blk scope) c G' H' σ3 (setDs (wipeDs ds (own.map (fun x : Str × Nat => x.2))) (asO its[i])) → Yields I.K J G' l → l = f its[i] → R J H') → uI2 hw1 σ3 H2 R := by
      intro R hR
      refine ⟨its[i], hmem, fun Y FY => ?_⟩
      exact (hw1 its[i] hmem Y FY).choose_spec.2 σ3 G2 H2 s3 R hR
    refine tri _ fun J1 G4 H4 l1 gr4 s4 y1 e1 => ?_
    subst e1
    obtain ⟨gL4, hL4⟩ := keepL gr4 gL2 hL2
    have gr04 := (gr.trans gr2).trans gr4
    have s40 : S I c G4 H4 σ ds := s2.regrow s4 gr4
    refine ⟨fun j m H' => m = (f its[i]).length - j ∧ j ≤ (f its[i]).length ∧ ∃ G' acc, Ex G4 G' ∧ Gr c.Z G1 H1 G' H' ∧ S I c G' H' σ ds ∧ S (I.blk scope) c G' H' σ3 (setDs (wipeDs ds (own.map (fun x : Str × Nat => x.2))) (asO its[i])) ∧ G' L = none ∧ H' L = some (.lst acc) ∧ RpA I.K G' (((its.take i).flatMap fun d => (f d).map (g d)) ++ ((f its[i]).take j).map (g its[i])) acc,
      ⟨_, rfl, Nat.zero_le _, G4, acc, Ex.refl _, gr04, s40, s4, gL4, hL4, by simp; exact (ra.mono (gr2.g.trans gr4.g))⟩, ?_⟩
    rintro j m H5 ⟨rfl, hjle, G5, acc5, ex5, gr5, s5, t5, gL5, hL5, ra5⟩
    obtain ⟨ya1, yb1⟩ := y1 c.Z c.G0 c.H0 σ3 _ G5 H5 ex5 t5
    by_cases hjt : j < (f its[i]).length
    · have hej : (f its[i])[j]? = some (f its[i])[j] := by simp [hjt]
      obtain ⟨go1, yl1⟩ := ya1 j _ hej
      refine .inr ⟨go1, fun H' => ∃ G' acc, Ex G4 G' ∧ Gr c.Z G1 H1 G' H' ∧ S I c G' H' σ ds ∧ S (I.blk scope) c G' H' σ3 (setDs (wipeDs ds (own.map (fun x : Str × Nat => x.2))) (asO its[i])) ∧ G' L = none ∧ H' L = some (.lst acc) ∧ RpA I.K G' (((its.take i).flatMap fun d => (f d).map (g d)) ++ ((f its[i]).take (j + 1)).map (g its[i])) acc, fun H' q => ⟨_, by omega, rfl, hjt, q⟩, fun v1 H6 hy1 => ?_⟩
      obtain ⟨G6, gr6, s6, r6⟩ := yl1 v1 H6 hy1
      obtain ⟨gL6, hL6⟩ := keepL gr6 gL5 hL5
      obtain ⟨as1, ha1, hin1, hel⟩ := he its[i] hmem (f its[i])[j] (by simp)
      have sw6 : S (I.blk scope) c G6 H6 (L2.wipe σ3 vs1) (wipeDs (setDs (wipeDs ds (own.map (fun x : Str × Nat => x.2))) (asO its[i])) vs1) := State.wipe s6 vs1
      refine qg1 c _ G6 H6 _ v1 _ as1 sw6 r6 ha1 _ fun σ7 s7 hwp7 hno7 => ?_
      refine ⟨(hwp7 vs1 hin1).trans (wkey σ3 _ _ (fun u hu => hu)), fun Y FY => ntI FY (iteT (fun Y FY => hel Y FY σ7 G6 H6 s7 _ fun z G8 H8 t gr8 s8 r8 p8 => ?_))⟩
      obtain ⟨gL8, hL8⟩ := keepL gr8 gL6 hL6
      have u8 : S I c G8 H8 σ ds := s5.regrow s8 (gr6.trans gr8)
      have t8 : S (I.blk scope) c G8 H8 σ3 (setDs (wipeDs ds (own.map (fun x : Str × Nat => x.2))) (asO its[i])) := s6.regrow s8 gr8
      have hacc := ra5.length
      have hle : ((((its.take i).flatMap fun d => (f d).map (g d)) ++ ((f its[i]).take j).map (g its[i])) ++ [g its[i] (f its[i])[j]]).length ≤ Lm := by
        refine Nat.le_trans ?_ hlen
        have e1 : its = its.take i ++ (its[i] :: its.drop (i + 1)) := by rw [← List.drop_eq_getElem_cons hlt, List.take_append_drop]
        have e2 : (its.flatMap fun d => (f d).map (g d)).length = ((its.take i).flatMap fun d => (f d).map (g d)).length + ((f its[i]).length + ((its.drop (i + 1)).flatMap fun d => (f d).map (g d)).length) := by
          conv => lhs; rw [e1]
          rw [List.flatMap_append, List.flatMap_cons, List.length_append, List.length_append, List.length_map]
        rw [e2, List.length_append, List.length_append, List.length_map, List.length_take, List.length_singleton]
        omega
      rw [List.length_append, List.length_singleton] at hle
      refine ⟨acc5, hL8, by rw [hacc]; exact Lm_lt (Nat.le_of_succ_le hle), G8, acc5 ++ [z], ex5.trans (gr6.g.trans gr8.g), ?_, u8.poke gL8 ndk h00 no, State.poke t8 gL8 ndk h00 no3, gL8, upd_same, ?_⟩
      · have g8 := (gr5.trans gr6).trans gr8
        refine ⟨g8.g, fun a o h z' => ?_, g8.nw, fun p h z' => ?_⟩
        · have : a ≠ L := by
            rintro rfl
            rw [nL] at h; cases h
          rw [upd_ne this]; exact g8.h a o h z'
        · by_cases e : p = L
          · rw [e, upd_same] at z'; cases z'
          · rw [upd_ne e] at z'; exact g8.dom p h z'
      · subst p8
        have e9 : (f its[i]).take (j + 1) = (f its[i]).take j ++ [(f its[i])[j]] := by rw [List.take_add_one, hej]; rfl
        rw [e9, List.map_append, ← List.append_assoc]
        exact (ra5.mono (gr6.g.trans gr8.g)).append (.cons r8 .nil)
    · have e : j = (f its[i]).length := by omega
      subst e
      refine .inl ⟨yb1, G5, acc5, gr5, s5, gL5, hL5, ?_⟩
      rw [htk, List.flatMap_append, List.flatMap_cons, List.flatMap_nil, List.append_nil]
      rw [List.take_length] at ra5; exact ra5
  · have e : i = its.length := by omega
    subst e
    rw [List.take_length] at ra
    exact .inl ⟨yb, k L acc G' H' _ (x1.trans gr) s' hL0 hgL ndk hlen hHL ra rfl⟩
/-- y = [elt for tg in iter for tg1 in iter1] on one line, y a plain local -/
theorem rs_setLc2 {i : Nat} {y : Str} {py : Pos} {elt tg iter tg1 iter1 : Expr} {scope : Scope} {spos : Pos} (own : List (Str × Nat)) (vs1 : List Nat) {asg asg1 : D → List (Nat × D) → Prop} {items : List D} (f : D → List D) (g : D → D → D) (asO : D → List (Nat × D))
    (hN : I.N[i]? = some y) (hyl : I.sc.names.lookup y = some .local) (hl1 : (py.line == pos.line) = true) (hny : (scope.names.any fun (n, k) => n == y && (k == .local || k == .cell)) = false)
    (hb : blkC I.N I.sc scope own = true) (hv : ∀ i ∈ vs1, i ∈ own.map (fun x : Str × Nat => x.2)) (hw : Walk I c tg iter ds (· = items)) (ht : TgE (I.blk scope) tg asg) (ht1 : TgE (I.blk scope) tg1 asg1) (hlen : (items.flatMap fun d => (f d).map (g d)).length ≤ Lm)
    (ha : ∀ d ∈ items, asg d (asO d) ∧ ∀ q ∈ asO d, q.1 ∈ own.map (fun x : Str × Nat => x.2))
    (hw1 : ∀ d ∈ items, Walk (I.blk scope) c tg1 iter1 (setDs (wipeDs ds (own.map (fun x : Str × Nat => x.2))) (asO d)) (· = f d))
    (he : ∀ d ∈ items, ∀ e ∈ f d, ∃ as1, asg1 e as1 ∧ (∀ q ∈ as1, q.1 ∈ vs1) ∧ EvE (I.blk scope) c elt (setDs (wipeDs (setDs (wipeDs ds (own.map (fun x : Str × Nat => x.2))) (asO d)) vs1) as1) (· = g d e))
    (hn : A.nx (ds.set i (.dat (.list (items.flatMap fun d => (f d).map (g d))))))
    (hs : ∀ X, Fits I X → ∀ x, foldedSetIterable iter X.env x = pure x := by intros; rfl) (hs1 : ∀ (env : Env) x, foldedSetIterable iter1 env x = pure x := by intros; rfl) :
    RunS I c (.Assign [.Name y py] (.ListComp elt [⟨tg, iter, [], 0⟩, ⟨tg1, iter1, [], 0⟩] scope pos) spos) ds A := fun X F σ G H E s k => by
  obtain ⟨wi, hi, qi⟩ := hw X F
  obtain ⟨tgt, hg, qg⟩ := ht
  obtain ⟨tgt1, hg1, qg1⟩ := ht1
  have hk : scope.kind = .function := (blkOk_by hb).kind
  have key : tLc2 wi tgt (uI (I.blk scope) []) (uI2 hw1) tgt1 (uI (I.blk scope) []) (uE (I.blk scope) elt) (own.map (fun x : Str × Nat => x.2)) vs1 σ H (fun v H1 => gName i v σ H1 E.nx) :=
    lc2_read own vs1 f g F qi qg qg1 hlen ha hw1 he σ G H s (fun v H1 => gName i v σ H1 E.nx) (fun p xs G1 H1 l x1 s1 np hgp hd hll hh r1 el => by
      have no := s.noOwn np
      have s2 : S I c (upd G1 p (.lst xs)) H1 σ ds := State.know s1 hh hgp hd (.inl (S.h0none s np)) no
      subst el
      exact k.nx _ (upd G1 p (.lst xs)) H1 _ (x1.g.trans (Ex.new hgp)) (State.set s2 (i := i) (sd := .dat (.list _)) rfl ⟨_, rfl, .lst upd_same hll (r1.mono (Ex.new hgp))⟩) hn)
  exact w_ps (ps_setLc2 (own := own) (vs1 := vs1) F.calm (by rw [F.N]; exact F.nd) (by rw [F.N]; exact hN) (by rw [F.sc]; exact hyl) (sw_true (by rw [F.sc]; exact F.kind) (by rw [F.sc]; exact hyl) hl1 hny) hi (by rw [F.N, F.sc]; exact blkOk_by hb) hv
    (fun s H C cl fp => hg _ (F.blk hk s H C cl fp)) (fun s H C cl fp => pts_u (F.blk hk s H C cl fp)) (fun s H C cl fp => pi_u hw1 (F.blk hk s H C cl fp)) (fun s H C cl fp => hg1 _ (F.blk hk s H C cl fp)) (fun s H C cl fp => pts_u (F.blk hk s H C cl fp)) (fun s H C cl fp => pe_u (F.blk hk s H C cl fp)) (hs X F) hs1) key
end

/-! ### calls where nothing is under way of being written out -/
def FnG (P : Program) (w : World) (K : Frag) (mg : Str → Option Value) (base : Heap) (k : Nat) (f : Addr) (sp : Sp) : Prop :=
  ∀ (A : Around) (outer : List Env) (s : Shared) (H : Hp) (us : List Value) (vs : List V) (Q : VK) (E : XK), A.guards = some [] → Room k A → Env0 P w K mg base A outer s H → Vals vs us → sp vs H Q E → codeAny (model P w) A (.call (.ref f) ⟨us, []⟩) (CR CX0 outer P w H s Q E) s
theorem FnG.mono {P : Program} {w : World} {K : Frag} {mg : Str → Option Value} {base : Heap} {j k : Nat} {f : Addr} {sp : Sp} (F : FnG P w K mg base j f sp) (h : j ≤ k) : FnG P w K mg base k f sp := fun A outer s H us vs Q E hg hr => F A outer s H us vs Q E hg (hr.mono h)
structure FnGS (I : Inf) (x : Str) (sp : Sp) : Prop where
  ok : ∃ (f : Addr), I.mg x = some (.ref f) ∧ PySem.W.keepIn I.K (.ref f) = true ∧ FnG I.prog I.w I.K I.mg I.base I.k f sp
section
variable {I : Inf} {c : Ct} {ds : List SD} {e : Expr} {P : D → Prop} {pos p : Pos}
theorem ev_callG {x : Str} {es : List Expr} {Pc : List AD → (D → Prop) → Prop} {PA : List AD → Prop} (hgd : I.gd = true) (hf : FnGS I x (spD I.K Pc)) (hg : I.sc.names.lookup x = some .globalImplicit) (ha : EvAD I c (e :: es) ds PA)
    (h : ∀ l, PA l → ∃ R, Pc l R ∧ ∀ d, R d → P d) (hdb : (x == ("__debug__" : Str)) = false := by decide)
    (he : ∀ X, Fits I X → starEach (e :: es) X.env = (false, eval e X.env) :: starEach es X.env := by intros; rfl) (hpl : ∀ X, Fits I X → (backTo pos (starEach es X.env)).any (·.1) = false := by intros; rfl) :
    EvE I c (.Call (.Name x p) (e :: es) [] pos) ds P := fun X F σ G H s Q k => by
  obtain ⟨f, hm, hk, G0⟩ := hf.ok
  have pe : PE X (.Call (.Name x p) (e :: es) [] pos) (fun σ H Q => wA X (e :: es) σ H fun vs H1 => spD I.K Pc vs H1 Q E0) := by
    refine ⟨fun pins s σ H Q J h => wpAny_Call_Name_kw (ld_glob J (by show X.env.scope.names.lookup x = _; rw [F.sc]; exact hg) (by rw [F.mg]; exact hm) ?_ hdb)⟩
    refine PySem.W.callWith_K (h₀ := X.base) J.ok.mod.kin (by rw [F.K]; exact hk) (thn (pa_w.run pos pins s σ H _ J h) fun us s1 ⟨vs, H1, I1, r, q⟩ => ⟨I1.kIn, ?_⟩) (he X F) (hpl X F)
    have G1 : FnG X.prog X.w X.K X.mg X.base I.k f (spD I.K Pc) := by rw [F.prog, F.w, F.K, F.mg, F.base]; exact G0
    refine wpAny_call (codeAny_mono (G1 X.A X.stack s1 H1 us vs Q E0 (F.gd hgd) F.room I1.env0 r q) fun r s' hq => ?_)
    match r, hq with
    | .error _, hq => exact (show False from hq).elim
    | .ok .next, hq => exact (show False from hq).elim
    | .ok .brk, hq => exact (show False from hq).elim
    | .ok .cont, hq => exact (show False from hq).elim
    | .ok (.ret u), hq => exact I1.after hq
  refine w_pe pe ?_
  refine ha X F σ G H s _ fun vs G1 H1 l x1 s1 r1 p1 => ?_
  obtain ⟨R, hc, hp⟩ := h l p1
  refine ⟨{ deck := c.Z.deck }, G1, l, R, rfl, s1.ex, s1.deck, ArgsRp.zone (Z := c.Z) (Z' := { deck := c.Z.deck }) rfl r1, hc, fun v G' H' d t r q => ?_⟩
  obtain ⟨s2, gr⟩ := State.after s1 t rfl (.inr rfl)
  exact k v G' H' d (x1.trans gr) s2 r (hp d q)
end
section
variable {P : Program} {w : World} {K : Frag} {mg : Str → Option Value} {base : Heap} {x qual : Str} {st : Stmt} {f : Addr} {fd : FuncData} {N ps : List Str} {k : Nat}
theorem fn_mkGD {Pc : List AD → (D → Prop) → Prop} (F : Fun K x qual st f fd) (Sc : FnScope N ps (defScope st)) (hl : ∀ ads R, Pc ads R → ads.length = ps.length)
    (hbind : ∀ (s : Shared) (us : List Value), us.length = ps.length → BindsTo s fd ⟨us, []⟩ (ps.zip us))
    (body : ∀ (c : Ct) (ads : List AD) (R : D → Prop), Pc ads R → c.Z.given = none → Run ⟨P, w, K, mg, base, N, defScope st, k, fun _ => true, true⟩ c (defBody st) (startD ads N.length) { nx := fun _ => R .none, rt := R }) :
    FnG P w K mg base (k + 1) f (spD K Pc) := by
  obtain ⟨oc, od, kV, doc, pm, an, cdv, ct, osl, rfl, lk, hcd⟩ := F.ex
  intro A outer s H us vs Q E hgd hr e0 r hsp
  obtain ⟨Z, G, ads, R, hz, ex, hd, ra, hc, q⟩ := hsp
  have hlv : vs.length = ps.length := by rw [ra.length]; exact hl ads R hc
  have kin : K.In s.heap := e0.mod.kin.keeps fun d o e => (e0.bs d o e).1
  have lim0 : s.heap.NoLimit := e0.mod.nolimit.keeps fun d o e => (e0.bs d o e).1
  have kinds : ∀ y ∈ ps.zip us, (defScope st).names.lookup y.1 = some .local ∨ ((defScope st).names.lookup y.1 = some .cell ∧ ((cellsFrom (s.heap.objs.size + 1) (defScope st).names []).lookup y.1).isSome = true) := by
    rintro ⟨nm, v⟩ hy
    rcases Sc.par nm (List.of_mem_zip hy).1 with z | z
    · exact .inl z
    · exact .inr ⟨z, PySem.W.cellsFrom_some _ _ _ (.inl z)⟩
  refine codeAny_call_function hr.depth (kin _ _ lk) rfl Sc.co Sc.gen rfl (PySem.W.codeRec_of kin hcd) (hbind s us (by rw [← r.length]; exact hlv) _ _ _ _ ?_)
  refine wpAny_newFunctionEnv_cells Sc.kind kinds fun en he s1 xi => ?_
  subst he
  refine ⟨lim0.keeps xi.toInCall.keep, codeAny_func ?_⟩
  have Fi := fits_defG (P := P) (w := w) (K := K) (mg := mg) (base := base) (f := f) (qual := qual) (cdv := cdv) (A := A) (outer := outer) (s := s) (H := H) (E := E0) Sc (hr.deeper _) hgd
  have go := body ⟨Z, G, H⟩ ads R hc hz _ Fi (L2.start N vs) G H { nx := fun _ H' => Q .non H', rt := Q } (State.start hz ex hd ra (by rw [hl ads R hc]; exact pre_le Sc)) ⟨fun σ' G' H' ds' e s' n => q .non G' H' .none s'.drop .non n, fun _ _ _ _ _ _ z => z.elim, fun _ _ _ _ _ _ z => z.elim,
      fun v G' H' d s' r' n => q v G' H' d s' r' n, fun _ _ _ _ _ _ _ _ _ _ _ _ z => z.elim, fun _ _ _ _ _ _ _ _ _ _ _ _ _ _ _ _ _ _ _ _ z => z.elim⟩
  have J : Inv (cxOf CX0 P w K mg base N qual (defScope st) f cdv A outer s H E0) [] (L2.start N vs) H s1 := inv_start Sc hr.hd e0 hlv r xi
  have ht : PSs (cxOf CX0 P w K mg base N qual (defScope st) f cdv A outer s H E0).nox (defBody st) _ := pss_w
  refine wpAny_mono (ht.nox.run [] s1 (L2.start N vs) H _ J go) (fun fl s' hs => ?_) fun e s' hs => hs
  have tell : ∀ {σ' : L2.St} {H' : Hp} {v : V} {u : Value}, Inv (cxOf CX0 P w K mg base N qual (defScope st) f cdv A outer s H E0) [] σ' H' s' → RelV v u → Q v H' → CE outer P w H s Q u s' := fun {σ' H' v u} J' rv q => ⟨v, H', J'.os, J'.bare, J'.base, J'.hok, rv, q⟩
  cases fl with
  | ret u =>
    obtain ⟨v, σ', H', J', rv, q'⟩ := hs
    exact tell J' rv q'
  | next =>
    obtain ⟨σ', H', J', q'⟩ := hs
    exact tell (v := V.non) (u := Value.none) J' rfl q'
  | brk =>
    obtain ⟨_, _, _, q'⟩ := hs
    exact q'.elim
  | cont =>
    obtain ⟨_, _, _, q'⟩ := hs
    exact q'.elim
end
/-! a call by one keyword -/
structure FnK1 (I : Inf) (x k1 : Str) (sp : Sp) : Prop where
  ok : ∃ (f : Addr) (fd : FuncData) (ps : List Str) (g : List Value → List Value → List Value) (gV : List V → List V → List V), I.mg x = some (.ref f) ∧ PySem.W.keepIn I.K (.ref f) = true ∧ KBinds I.K fd ps [k1] g gV ∧ (∀ a, gV [] [a] = [a]) ∧ FnOk I.prog I.w I.K I.mg I.base CX0 I.k f fd ps sp
section
variable {I : Inf} {c : Ct} {ds : List SD} {e1 : Expr} {P : D → Prop} {pos p q1 : Pos} {d1 : D}
theorem ev_callK1 {x k1 : Str} {Pc : List AD → (D → Prop) → Prop} {R : D → Prop} (hf : FnK1 I x k1 (spD I.K Pc)) (hg : I.sc.names.lookup x = some .globalImplicit) (h1 : EvE I c e1 ds (· = d1)) (hc : Pc [.dat d1] R) (hp : ∀ d, R d → P d)
    (hall : ∀ X, Fits I X → (backToKw pos (keywordEach [⟨some k1, e1, q1⟩] X.env)).all (·.1.isSome) = true := by intros; rfl)
    (hks : ∀ X, Fits I X → (backToKw pos (keywordEach [⟨some k1, e1, q1⟩] X.env)).filterMap (·.1) = [k1] := by intros; rfl) (hdb : (x == ("__debug__" : Str)) = false := by decide)
    (hpl : ∀ X, Fits I X → ((backTo pos (starEach [] X.env)).any (·.1) || (backToKw pos (keywordEach [⟨some k1, e1, q1⟩] X.env)).any (·.1.isNone)) = false := by intros; rfl) :
    EvE I c (.Call (.Name x p) [] [⟨some k1, e1, q1⟩] pos) ds P := fun X F σ G H s Q k => by
  obtain ⟨f, fd, ps, g, gV, hm, hk, hb, hgV, G0⟩ := hf.ok
  have G1 : FnOk X.prog X.w X.K X.mg X.base CX0 I.k f fd ps (spD I.K Pc) := by rw [F.prog, F.w, F.K, F.mg, F.base]; exact G0
  refine w_pe (pe_callK0 G1 F.room (by show X.env.scope.names.lookup x = _; rw [F.sc]; exact hg) (by rw [F.mg]; exact hm) (by rw [F.K]; exact hk) (by rw [F.K]; exact hb) pass0 (pk_cons pe_w pk_nil) (hall X F) (hks X F) hdb (hpl X F)) ?_
  refine h1 X F σ G H s _ fun v1 G1 H1 y1 x1 s1 r1 p1 => ?_
  subst p1
  show spD I.K Pc (gV [] [v1]) H1 Q E0
  rw [hgV]
  refine ⟨{ deck := c.Z.deck }, G1, [.dat y1], R, rfl, s1.ex, s1.deck, ⟨v1, _, rfl, r1, rfl⟩, hc, fun v G' H' d t r q => ?_⟩
  obtain ⟨s5, gr⟩ := State.after s1 t rfl (.inr rfl)
  exact k v G' H' d (x1.trans gr) s5 r (hp d q)
end
end Dl


set_option Elab.async false
set_option maxRecDepth 100000
set_option exponentiation.threshold 2000
set_option linter.all false
set_option maxHeartbeats 1000000
namespace K8
open PySem L2 Dl
local macro_rules | `(tactic| walk_at "vis") => `(tactic| first | exact Or.inl rfl | exact Or.inr (Or.inl rfl) | exact Or.inr (Or.inr rfl))
local macro_rules | `(tactic| walk_at "sto") => `(tactic| first | exact ⟨rfl, Or.inl rfl, Or.inl rfl⟩ | exact ⟨rfl, Or.inl rfl, Or.inr rfl⟩ | exact ⟨rfl, Or.inr rfl, Or.inl rfl⟩)
local macro_rules | `(tactic| walk_at "var") => `(tactic| first
  | exact ev_var 0 rfl (by walk_at "vis") rfl | exact ev_var 1 rfl (by walk_at "vis") rfl | exact ev_var 2 rfl (by walk_at "vis") rfl | exact ev_var 3 rfl (by walk_at "vis") rfl
  | exact ev_var 4 rfl (by walk_at "vis") rfl | exact ev_var 5 rfl (by walk_at "vis") rfl | exact ev_var 6 rfl (by walk_at "vis") rfl | exact ev_var 7 rfl (by walk_at "vis") rfl
  | exact ev_var 8 rfl (by walk_at "vis") rfl | exact ev_var 9 rfl (by walk_at "vis") rfl | exact ev_var 10 rfl (by walk_at "vis") rfl | exact ev_var 11 rfl (by walk_at "vis") rfl
  | exact ev_var 12 rfl (by walk_at "vis") rfl | exact ev_var 13 rfl (by walk_at "vis") rfl | exact ev_var 14 rfl (by walk_at "vis") rfl | exact ev_var 15 rfl (by walk_at "vis") rfl)

local macro_rules | `(tactic| walk_at "ev") => `(tactic| first
  | exact ev_int | exact ev_bl | exact ev_str | exact ev_non
  | walk_at "var"
  | (refine ev_neg ?_ <;> walk_at "ev")
  | (refine ev_add ?_ ?_ <;> walk_at "ev")
  | (refine ev_sub ?_ ?_ <;> walk_at "ev"))

local macro_rules | `(tactic| walk_at "blk") => `(tactic| (dsimp only; decide +kernel))
/-! the law's own cuts and corners -/
def Wd (x : Int) : Prop := x.natAbs < 2 ^ 40000
theorem Sm.mulWd {x y : Int} (hx : Sm x) (hy : Wd y) : CMulW x y := wide_mul (a := 400) (b := 40000) hx hy (by decide) (by decide) (by decide)
theorem Wd.of_sm {x : Int} (h : Sm x) : Wd x := Nat.lt_of_lt_of_le h (Nat.pow_le_pow_right (by decide) (by decide))
theorem sm_20 {x : Int} (h : x.natAbs ≤ 2 ^ 20) : Sm x := Nat.lt_of_le_of_lt h (by decide)
theorem sm_42 {x : Int} (h : x.natAbs ≤ 2 ^ 42) : Sm x := Nat.lt_of_le_of_lt h (by decide)
section
variable {P : Program} {w : World} {K : Frag} {mg : Str → Option Value} {base : Heap} {k : Nat} {f : Addr} {fd : FuncData}
/-! _law_value(shut, point), the point of any size -/
def pcVw : List AD → (D → Prop) → Prop := fun ads R => ∃ (n : Nat) (r p : List Int), ads = [.dat (wallD r), .dat (wallD p)] ∧ r.length = n ∧ p.length = n ∧ n ≤ 1000 ∧ SmRow r ∧ (∀ x ∈ p, Wd x) ∧ R = (· = .int (dotn n r p))
theorem ok_Vw (m : Mg mg) (F : Fun K "_law_value" "_law_value" sVal f fd) : FnOk P w K mg base CX0 (k + 1) f fd ["_law_shut", "_law_point_here"] (spD K pcVw) := by
  refine fn_mkD F scVal (fun ads R h => by obtain ⟨_, _, _, rfl, _⟩ := h; rfl) fun c ads R h hz => ?_
  obtain ⟨n, r, p, rfl, hr, hp, hl, sr, sp, rfl⟩ := h
  rw [← dotL_dotn hr hp]
  refine run_one (rs_ret (ev_sum (ns := (r.zip p).map (fun z => z.1 * z.2)) rfl m.sum ((ev_lc (ef_map [("_law_x", 2), ("_law_y", 3)] (items := zipL (r.map PyData.int) (p.map PyData.int)) (pairF (fun a b => a * b)) (by walk_at "blk") (wk_zip rfl m.zip (by walk_at "var") (by walk_at "var") (.inr ⟨rfl, rfl⟩)) (tg_two (i := 2) (j := 3) (by walk_at "sto") (by walk_at "sto")) ?_ ?_)).is ?_)) rfl)
  · rw [zip_ints, List.length_map, List.length_zip]; show _ ≤ 100000; omega
  · intro d hd
    rw [zip_ints] at hd
    obtain ⟨z, hz', rfl⟩ := List.mem_map.mp hd
    have m1 := (List.of_mem_zip hz').1
    have m2 := (List.of_mem_zip hz').2
    exact ⟨[(2, .int z.1), (3, .int z.2)], ⟨_, _, rfl, rfl⟩, by simp, ev_mul (i := z.1) (j := z.2) (by walk_at "var") (by walk_at "var") (Sm.mulWd (sr _ m1) (sp _ m2))⟩
  · rw [zip_ints, List.map_map, List.map_map]; rfl

/-! _law_box(width, k) -/
abbrev sBox : Stmt := top 46
theorem scBox : FnScope ["_law_width", "_law_k", "_law_found", "_law_at", "_law_one", "_law_x"] ["_law_width", "_law_k"] (defScope sBox) := ⟨rfl, rfl, rfl, by decide +kernel, rfl, by decide +kernel, by decide +kernel⟩
def uni (n i : Nat) : List Int := List.replicate i 0 ++ [1] ++ List.replicate (n - 2 - i) 0
def boxG (n : Nat) (k : Int) (i : Nat) : List (List Int) := (List.range i).flatMap fun j => [negL (uni n j) ++ [k], uni n j ++ [k]]
theorem boxG_all {n : Nat} (h : Two n) (k : Int) : boxG n k (n - 1) = boxL n k := by
  rcases h with rfl | rfl
  · rfl
  · rfl
theorem boxG_next (n : Nat) (k : Int) (i : Nat) : boxG n k (i + 1) = boxG n k i ++ [negL (uni n i) ++ [k], uni n i ++ [k]] := by
  unfold boxG; rw [List.range_succ, List.flatMap_append]; simp
theorem boxG_len (n : Nat) (k : Int) (i : Nat) : (boxG n k i).length = 2 * i := by
  induction i with
  | zero => rfl
  | succ i ih => rw [boxG_next, List.length_append, ih]; simp; omega
def pcBox : List AD → (D → Prop) → Prop := fun ads R => ∃ (n : Nat) (k : Int), ads = [.dat (.int n), .dat (.int k)] ∧ Two n ∧ R = (· = wallsD (boxL n k))
theorem ok_Box (m : Mg mg) (F : Fun K "_law_box" "_law_box" sBox f fd) : FnOk P w K mg base CX0 (k + 1) f fd ["_law_width", "_law_k"] (spD K pcBox) := by
  refine fn_mkD F scBox (fun ads R h => by obtain ⟨_, _, rfl, _⟩ := h; rfl) fun c ads R h hz => ?_
  obtain ⟨n, kk, rfl, h2, rfl⟩ := h
  have hn : 2 ≤ n ∧ n ≤ 3 := by rcases h2 with rfl | rfl <;> omega
  refine run_to (ds1 := [.dat (.int n), .dat (.int kk), .dat (wallsD (boxG n kk 0)), .un, .un, .un]) (rs_setP (i := 2) (P := (· = wallsD [])) (by walk_at "sto") (ev_tup ea_nil) (fun d hd => by subst hd; rfl)) ?_
  refine run_cons (Mid := fun ds' => ∃ z1 z2 : SD, ds' = [.dat (.int n), .dat (.int kk), .dat (wallsD (boxG n kk (n - 1))), z1, z2, .un])
    (rs_for (items := intsD 0 ((n : Int) - 1).toNat) (wk_range1 (n := (n : Int) - 1) rfl m.range (ev_sub (by walk_at "var") ev_int) (by omega) (by omega)) (tg_name (i := 3) (by walk_at "sto"))
      (fun i ds' => ∃ z1 z2 : SD, ds' = [.dat (.int n), .dat (.int kk), .dat (wallsD (boxG n kk i)), z1, z2, .un]) ⟨_, _, rfl⟩ ?_ (fun ds' h => by
        rw [intsD_length, show ((n : Int) - 1).toNat = n - 1 by omega] at h; exact h)) ?_
  · rintro i d ds' hi ⟨z1, z2, rfl⟩
    obtain ⟨hi', rfl⟩ := intsD_get hi
    rw [Int.zero_add]
    have hi2 : i ≤ n - 2 := by omega
    refine ⟨_, rfl, ?_⟩
    refine run_to (ds1 := [.dat (.int n), .dat (.int kk), .dat (wallsD (boxG n kk i)), .dat (.int i), .dat (wallD (uni n i)), .un]) (rs_setP (i := 4) (P := (· = wallD (uni n i))) (by walk_at "sto")
      (ev_as (ev_catT (l := (List.replicate i (0 : Int) ++ [1]).map PyData.int) (m := (List.replicate (n - 2 - i) (0 : Int)).map PyData.int) (ev_as (ev_catT (l := (List.replicate i (0 : Int)).map PyData.int) (m := [.int 1])
        (ev_as (ev_repT (l := [.int 0]) (n := i) (ev_tup (ea_cons ev_int ea_nil)) (by walk_at "var") (by omega) (by omega) (by decide)) (by rw [Int.toNat_natCast, flat1, List.map_replicate])) (ev_tup (ea_cons ev_int ea_nil)) (by simp; show _ ≤ 100000; omega)) (by rw [List.map_append]; rfl))
        (ev_as (ev_repT (l := [.int 0]) (n := ((n - 2 - i : Nat) : Int)) (ev_tup (ea_cons ev_int ea_nil)) (ev_as (ev_sub (ev_sub (by walk_at "var") ev_int) (by walk_at "var")) (by congr 1; omega)) (by omega) (by omega) (by decide)) (by rw [Int.toNat_natCast, flat1, List.map_replicate])) (by simp; show _ ≤ 100000; omega)) (by unfold uni wallD; rw [← List.map_append])) (fun d hd => by subst hd; rfl)) ?_
    refine run_one (rs_setP (i := 2) (P := (· = wallsD (boxG n kk (i + 1)))) (by walk_at "sto")
      (ev_as (ev_catT (l := (boxG n kk i).map wallD) (m := [wallD (negL (uni n i) ++ [kk]), wallD (uni n i ++ [kk])]) (by walk_at "var")
        (ev_tup (ea_cons (ev_as (ev_catT (l := (negL (uni n i)).map PyData.int) (m := [.int kk]) (ev_tupleP (PA := (· = rowD (negL (uni n i)))) rfl m.tuple ((ev_lc (ef_map [("_law_x", 5)] (items := (uni n i).map PyData.int) (intF (- ·)) (by walk_at "blk") (wk_tup (by walk_at "var")) (tg_name (i := 5) (by walk_at "sto")) (by rw [List.length_map]; unfold uni; simp; show _ ≤ 100000; omega) ?_)).is (by rw [map_intF]; rfl))
            (fun x hx => ⟨_, .inl hx, rfl⟩)) (ev_tup (ea_cons (by walk_at "var") ea_nil) (hl := by show 1 ≤ 100000; decide)) (by rw [List.length_map]; unfold negL uni; simp; show _ ≤ 100000; omega)) (by unfold wallD; rw [List.map_append]; rfl))
          (ea_cons (ev_as (ev_catT (l := (uni n i).map PyData.int) (m := [.int kk]) (by walk_at "var") (ev_tup (ea_cons (by walk_at "var") ea_nil) (hl := by show 1 ≤ 100000; decide)) (by rw [List.length_map]; unfold uni; simp; show _ ≤ 100000; omega)) (by unfold wallD; rw [List.map_append]; rfl)) ea_nil)) (hl := by show 2 ≤ 100000; decide))
        (by rw [List.length_map, boxG_len]; show _ ≤ 100000; simp; omega)) (by rw [boxG_next]; unfold wallsD; rw [List.map_append]; rfl)) (fun d hd => ⟨.dat (.int i), .dat (wallD (uni n i)), by subst hd; rfl⟩))
    intro d hd
    obtain ⟨x, hx, rfl⟩ := mem_int hd
    exact ⟨_, rfl, by simp, ev_neg (i := x) (by walk_at "var")⟩
  rintro ds' ⟨z1, z2, rfl⟩
  exact run_one (rs_ret (by walk_at "var") (by show _ = _; rw [boxG_all h2]))

/-! _law_cut(one, other) -/
abbrev sCut : Stmt := top 48
theorem scCut : FnScope ["_law_one", "_law_other", "_law_point_here", "_law_x"] ["_law_one", "_law_other"] (defScope sCut) := ⟨rfl, rfl, rfl, by decide +kernel, rfl, by decide +kernel, by decide +kernel⟩
def optD : Option (List Int) → D
  | none => .none
  | some c => wallD c
def pcCut : List AD → (D → Prop) → Prop := fun ads R => ∃ (n : Nat) (a b : List Int), ads = [.dat (wallD a), .dat (wallD b)] ∧ Two n ∧ a.length = n ∧ b.length = n ∧ SmRow a ∧ SmRow b ∧ R = (· = optD (cutO n a b))
theorem ok_Cut (m : Mg mg) (F : Fun K "_law_cut" "_law_cut" sCut f fd) : FnOk P w K mg base CX0 (k + 1) f fd ["_law_one", "_law_other"] (spD K pcCut) := by
  refine fn_mkD F scCut (fun ads R h => by obtain ⟨_, _, _, rfl, _⟩ := h; rfl) fun c ads R h hz => ?_
  obtain ⟨n, a, b, rfl, h2, ha, hb, sa, sb, rfl⟩ := h
  have hr := raw_len h2 a b
  refine run_to (ds1 := [.dat (wallD a), .dat (wallD b), .dat (wallD (rawC n a b)), .un]) (rs_if (PT := (· = decide (((a.map PyData.int).length : Int) = 2))) (et_eqI (ev_lenT (l := a.map PyData.int) rfl m.len (by walk_at "var")) ev_int)
    (fun hh => ?_) (fun hh => ?_)) ?_
  · have hn : n = 2 := by have := of_decide_eq_true hh.symm; rw [List.length_map, ha] at this; omega
    subst hn
    have ix : ∀ j : Nat, j < 2 → atI (a.map PyData.int) (j : Int) = some (.int (a.getD j 0)) := fun j hj => at_row (by omega)
    exact run_one (rs_setP (i := 2) (P := (· = wallD (rawC 2 a b))) (by walk_at "sto") (ev_as (ev_tup (ea_cons (ev_neg (i := a.getD 1 0) (ev_ixT (l := a.map PyData.int) (by walk_at "var") ev_int (ix 1 (by omega)))) (ea_cons (ev_ixT (l := a.map PyData.int) (by walk_at "var") ev_int (ix 0 (by omega))) ea_nil)) (hl := by show 2 ≤ 100000; decide)) rfl) (fun d hd => by subst hd; rfl))
  · have hn : n = 3 := by
      have := of_decide_eq_false hh.symm; rw [List.length_map, ha] at this
      rcases h2 with e | e
      · omega
      · exact e
    subst hn
    have ix : ∀ j : Nat, j < 3 → atI (a.map PyData.int) (j : Int) = some (.int (a.getD j 0)) := fun j hj => at_row (by omega)
    have iy : ∀ j : Nat, j < 3 → atI (b.map PyData.int) (j : Int) = some (.int (b.getD j 0)) := fun j hj => at_row (by omega)
    have pr : ∀ i j : Nat, CMulW (a.getD i 0) (b.getD j 0) := fun i j => Sm.mul (SmRow.at sa i) (SmRow.at sb j)
    exact run_one (rs_setP (i := 2) (P := (· = wallD (rawC 3 a b))) (by walk_at "sto") (ev_as (ev_tup
      (ea_cons (ev_sub (ev_mul (i := a.getD 1 0) (j := b.getD 2 0) (ev_ixT (l := a.map PyData.int) (by walk_at "var") ev_int (ix 1 (by omega))) (ev_ixT (l := b.map PyData.int) (by walk_at "var") ev_int (iy 2 (by omega))) (pr 1 2)) (ev_mul (i := a.getD 2 0) (j := b.getD 1 0) (ev_ixT (l := a.map PyData.int) (by walk_at "var") ev_int (ix 2 (by omega))) (ev_ixT (l := b.map PyData.int) (by walk_at "var") ev_int (iy 1 (by omega))) (pr 2 1)))
      (ea_cons (ev_sub (ev_mul (i := a.getD 2 0) (j := b.getD 0 0) (ev_ixT (l := a.map PyData.int) (by walk_at "var") ev_int (ix 2 (by omega))) (ev_ixT (l := b.map PyData.int) (by walk_at "var") ev_int (iy 0 (by omega))) (pr 2 0)) (ev_mul (i := a.getD 0 0) (j := b.getD 2 0) (ev_ixT (l := a.map PyData.int) (by walk_at "var") ev_int (ix 0 (by omega))) (ev_ixT (l := b.map PyData.int) (by walk_at "var") ev_int (iy 2 (by omega))) (pr 0 2)))
      (ea_cons (ev_sub (ev_mul (i := a.getD 0 0) (j := b.getD 1 0) (ev_ixT (l := a.map PyData.int) (by walk_at "var") ev_int (ix 0 (by omega))) (ev_ixT (l := b.map PyData.int) (by walk_at "var") ev_int (iy 1 (by omega))) (pr 0 1)) (ev_mul (i := a.getD 1 0) (j := b.getD 0 0) (ev_ixT (l := a.map PyData.int) (by walk_at "var") ev_int (ix 1 (by omega))) (ev_ixT (l := b.map PyData.int) (by walk_at "var") ev_int (iy 0 (by omega))) (pr 1 0)))
      ea_nil))) (hl := by show 3 ≤ 100000; decide)) rfl) (fun d hd => by subst hd; rfl))
  · generalize hq : rawC n a b = q at *
    have h1 : 1 ≤ n := by rcases h2 with rfl | rfl <;> omega
    refine run_cons (Mid := fun ds' => q.getD (n - 1) 0 ≠ 0 ∧ ds' = [.dat (wallD a), .dat (wallD b), .dat (wallD q), .un]) (rs_if (PT := (· = decide (q.getD (n - 1) 0 = 0))) (et_eqI (ev_ixT (l := q.map PyData.int) (by walk_at "var") (ev_neg ev_int) (last_at h1 hr)) ev_int)
      (fun hh => run_one (rs_ret ev_non (by
        show PyData.none = optD (cutO n a b)
        unfold cutO; rw [hq, if_pos (of_decide_eq_true hh.symm)]; rfl))) (fun hh => run_nil ⟨of_decide_eq_false hh.symm, rfl⟩)) ?_
    rintro ds' ⟨hne, rfl⟩
    refine run_one (rs_retP (P := (· = optD (cutO n a b))) (ev_if (PT := (· = decide (0 < q.getD (n - 1) 0))) (et_gt (ev_ixT (l := q.map PyData.int) (by walk_at "var") (ev_neg ev_int) (last_at h1 hr)) ev_int)
      (fun hh => ev_as (x := wallD q) (by walk_at "var") (by unfold cutO; rw [hq, if_neg hne, if_pos (of_decide_eq_true hh.symm)]; rfl))
      (fun hh => ev_tupleP (PA := (· = rowD (negL q))) rfl m.tuple ((ev_lc (ef_map [("_law_x", 3)] (items := q.map PyData.int) (intF (- ·)) (by walk_at "blk") (wk_tup (by walk_at "var")) (tg_name (i := 3) (by walk_at "sto")) (by rw [List.length_map, hr]; show n ≤ 100000; rcases h2 with rfl | rfl <;> omega) ?_)).is (by rw [map_intF]; rfl))
        (fun x hx => ⟨(negL q).map PyData.int, .inl hx, by unfold cutO; rw [hq, if_neg hne, if_neg (of_decide_eq_false hh.symm)]; rfl⟩))) (fun d hd => hd))
    intro d hd
    obtain ⟨x, hx, rfl⟩ := mem_int hd
    exact ⟨_, rfl, by simp, ev_neg (i := x) (by walk_at "var")⟩
end

end K8

set_option Elab.async false
set_option maxRecDepth 100000
set_option exponentiation.threshold 2000
set_option linter.all false
set_option maxHeartbeats 1000000
namespace K8
open PySem L2 Dl
local macro_rules | `(tactic| walk_at "vis") => `(tactic| first | exact Or.inl rfl | exact Or.inr (Or.inl rfl) | exact Or.inr (Or.inr rfl))
local macro_rules | `(tactic| walk_at "sto") => `(tactic| first | exact ⟨rfl, Or.inl rfl, Or.inl rfl⟩ | exact ⟨rfl, Or.inl rfl, Or.inr rfl⟩ | exact ⟨rfl, Or.inr rfl, Or.inl rfl⟩)
local macro_rules | `(tactic| walk_at "var") => `(tactic| first
  | exact ev_var 0 rfl (by walk_at "vis") rfl | exact ev_var 1 rfl (by walk_at "vis") rfl | exact ev_var 2 rfl (by walk_at "vis") rfl | exact ev_var 3 rfl (by walk_at "vis") rfl
  | exact ev_var 4 rfl (by walk_at "vis") rfl | exact ev_var 5 rfl (by walk_at "vis") rfl | exact ev_var 6 rfl (by walk_at "vis") rfl | exact ev_var 7 rfl (by walk_at "vis") rfl
  | exact ev_var 8 rfl (by walk_at "vis") rfl | exact ev_var 9 rfl (by walk_at "vis") rfl | exact ev_var 10 rfl (by walk_at "vis") rfl | exact ev_var 11 rfl (by walk_at "vis") rfl
  | exact ev_var 12 rfl (by walk_at "vis") rfl | exact ev_var 13 rfl (by walk_at "vis") rfl | exact ev_var 14 rfl (by walk_at "vis") rfl | exact ev_var 15 rfl (by walk_at "vis") rfl)

local macro_rules | `(tactic| walk_at "ev") => `(tactic| first
  | exact ev_int | exact ev_bl | exact ev_str | exact ev_non
  | walk_at "var"
  | (refine ev_neg ?_ <;> walk_at "ev")
  | (refine ev_add ?_ ?_ <;> walk_at "ev")
  | (refine ev_sub ?_ ?_ <;> walk_at "ev"))

local macro_rules | `(tactic| walk_at "blk") => `(tactic| (dsimp only; decide +kernel))
theorem step_few {n : Nat} {ws : List (List Int)} (h : ws.length ≤ 20) (i : Nat) (one : List Int) : (stepC n ws i one).length ≤ 20 := by
  unfold stepC
  refine Nat.le_trans (List.length_filterMap_le ..) ?_
  unfold mates
  split
  · rw [List.length_take]; omega
  · simp
theorem flat_few {n : Nat} {ws : List (List Int)} (h : ws.length ≤ 20) (l : List (List Int × Nat)) : (l.flatMap fun p => stepC n ws p.2 p.1).length ≤ 20 * l.length := by
  induction l with
  | nil => simp
  | cons p l ih =>
    rw [List.flatMap_cons, List.length_append, List.length_cons]
    have := step_few (n := n) h p.2 p.1; omega
def upC (n : Nat) (ws : List (List Int)) (i : Nat) : List (List Int) := (ws.zipIdx.take i).flatMap fun p => stepC n ws p.2 p.1
theorem upC_few {n : Nat} {ws : List (List Int)} (h : ws.length ≤ 20) (i : Nat) : (upC n ws i).length ≤ 400 := by
  have := flat_few (n := n) h (ws.zipIdx.take i)
  rw [List.length_take, List.length_zipIdx] at this
  unfold upC; omega
theorem upC_all {n : Nat} {ws : List (List Int)} : upC n ws ws.length = cornersL n ws := by
  unfold upC cornersL; rw [List.take_of_length_le (by rw [List.length_zipIdx]; omega)]
theorem upC_next {n : Nat} {ws : List (List Int)} {i : Nat} {one : List Int} (h : ws[i]? = some one) : upC n ws (i + 1) = upC n ws i ++ stepC n ws i one := by
  unfold upC
  rw [List.take_add_one, show ws.zipIdx[i]? = some (one, i) by rw [List.getElem?_zipIdx, h]; simp]
  simp
theorem stepC_next {n : Nat} {ws : List (List Int)} {i j : Nat} {one o : List Int} (h : (mates n ws i one)[j]? = some o) : ((mates n ws i one).take (j + 1)).filterMap (tryC n ws one) = ((mates n ws i one).take j).filterMap (tryC n ws one) ++ (tryC n ws one o).toList := by
  rw [List.take_add_one, h, List.filterMap_append, Option.toList_some, List.filterMap_cons]
  cases tryC n ws one o <;> simp
theorem mates_few {n : Nat} {ws : List (List Int)} {i : Nat} {one : List Int} (h : ws.length ≤ 20) : (mates n ws i one).length ≤ 20 := by
  unfold mates; split
  · rw [List.length_take]; omega
  · simp
theorem mates_mem {n : Nat} {ws : List (List Int)} {i : Nat} {one o : List Int} (h : one ∈ ws) (ho : o ∈ mates n ws i one) : o ∈ ws := by
  unfold mates at ho; split at ho
  · exact List.mem_of_mem_take ho
  · simp at ho; rw [ho]; exact h
theorem goodC_any {n : Nat} {ws : List (List Int)} {c : List Int} : (!((ws.map (fun w => decide (dotn n w c < 0))).any id)) = goodC n ws c := by
  unfold goodC
  rw [Bool.eq_iff_iff]
  simp only [Bool.not_eq_true', List.any_map, List.all_eq_true, List.any_eq_false, Function.comp, id, decide_eq_true_eq]
  exact ⟨fun h w hw => by have := h w hw; omega, fun h w hw => by have := h w hw; omega⟩
section
variable {P : Program} {w : World} {K : Frag} {mg : Str → Option Value} {base : Heap} {k : Nat} {f : Addr} {fd : FuncData}
section
variable {I : Inf} {c : Ct} {ds : List SD} {a : Expr} {pos pos' : Pos} {j : Nat}
theorem et_notN {d : D} {b' : Bool} (ha : EvE I c a ds (· = d)) (hd : d = .none ∧ b' = false ∨ ∃ l, d = .tuple l ∧ b' = true) : EvT I c (.Compare a [.IsNot] [.Constant .none j pos'] pos) ds (· = b') :=
  et_cmp (fun _ _ => op_notN) (nobehind _ (by decide) (by decide)) ha ev_non fun d' e hi hj => by
    rw [hi, hj]; intro σ G H u v s rx ry Q k
    have ev : v = .non := ry.non'
    subst ev
    refine ⟨rfl, k.now s .bl ?_⟩
    rcases hd with ⟨rfl, rfl⟩ | ⟨l, rfl, rfl⟩
    · have eu : u = .non := rx.non'
      subst eu; rfl
    · obtain ⟨a, xs, rfl, _⟩ := rx.tup'
      rfl
end
/-! _law_corners(shuts) -/
abbrev sCor : Stmt := top 49
theorem scCor : FnScope ["_law_shuts", "_law_found", "_law_at", "_law_one", "_law_other", "_law_point_here", "_law_shut"] ["_law_shuts"] (defScope sCor) := ⟨rfl, rfl, rfl, by decide +kernel, rfl, by decide +kernel, by decide +kernel⟩
def cornD (n : Nat) (ws : List (List Int)) : D := .list ((cornersL n ws).map wallD)
def pcCor : List AD → (D → Prop) → Prop := fun ads R => ∃ (n : Nat) (ws : List (List Int)), ads = [.dat (wallsD ws)] ∧ Two n ∧ WsOk n ws ∧ R = (· = cornD n ws)
theorem ok_Cor (m : Mg mg) (F : Fun K "_law_corners" "_law_corners" sCor f fd) (hCut : Has P w K mg base k "_law_cut" (spD K pcCut)) (hVal : Has P w K mg base k "_law_value" (spD K pcVal)) : FnOk P w K mg base CX0 (k + 1) f fd ["_law_shuts"] (spD K pcCor) := by
  refine fn_mkD F scCor (fun ads R h => by obtain ⟨_, _, rfl, _⟩ := h; rfl) fun c ads R h hz => ?_
  obtain ⟨n, ws, rfl, h2, H, rfl⟩ := h
  have hn : 2 ≤ n ∧ n ≤ 3 := by rcases h2 with rfl | rfl <;> omega
  have few := H.few
  refine run_to (ds1 := [.dat (wallsD ws), .own [], .un, .un, .un, .un, .un]) (rs_setF (i := 1) (PL := (· = [])) (by walk_at "sto") (ef_lst ea_nil (fun l hl => by subst hl; show 0 ≤ 100000; decide)) (fun l hl => by subst hl; rfl)) ?_
  refine run_cons (Mid := fun ds' => ∃ z1 z2 z3 z4 : SD, ds' = [.dat (wallsD ws), .own ((cornersL n ws).map wallD), z1, z2, z3, z4, .un])
    (rs_for (items := enumL (ws.map wallD)) (wk_enumT rfl m.enumerate (by walk_at "var")) (tg_two (i := 2) (j := 3) (by walk_at "sto") (by walk_at "sto"))
      (fun i ds' => ∃ z1 z2 z3 z4 : SD, ds' = [.dat (wallsD ws), .own ((upC n ws i).map wallD), z1, z2, z3, z4, .un]) ⟨_, _, _, _, rfl⟩ ?_ (fun ds' h => by
        rw [enumL_length, List.length_map, upC_all] at h; exact h)) ?_
  · rintro i d ds' hi ⟨z1, z2, z3, z4, rfl⟩
    obtain ⟨d0, h0, rfl⟩ := enumL_get hi
    rw [List.getElem?_map] at h0
    obtain ⟨one, h1, rfl⟩ := Option.map_eq_some_iff.mp h0
    have m1 := List.mem_of_getElem? h1
    have l1 := H.len one m1
    have s1 : SmRow one := fun x hx => sm_20 (H.sm one m1 x hx)
    have upf := upC_few (n := n) few i
    refine ⟨_, ⟨_, _, rfl, rfl⟩, ?_⟩
    refine run_one (rs_for (items := (mates n ws i one).map wallD) ?_ (tg_name (i := 4) (by walk_at "sto"))
      (fun j ds' => ∃ z3 z4 : SD, ds' = [.dat (wallsD ws), .own ((upC n ws i ++ ((mates n ws i one).take j).filterMap (tryC n ws one)).map wallD), .dat (.int (i : Nat)), .dat (wallD one), z3, z4, .un]) ⟨z3, z4, by simp; rfl⟩ ?_ (fun ds' h => ?_))
    · -- what the inner loop walks along
      rcases h2 with rfl | rfl
      · exact wk_list (ev_if (PT := (· = decide (((one.map PyData.int).length : Int) = 3))) (et_eqI (ev_lenT (l := one.map PyData.int) rfl m.len (by walk_at "var")) ev_int)
          (fun hh => by have := of_decide_eq_true hh.symm; rw [List.length_map, l1] at this; omega) (fun _ => ev_as (ev_lst (ea_cons (by walk_at "var") ea_nil) (hl := by show 1 ≤ 100000; decide)) rfl))
      · exact wk_tup (ev_if (PT := (· = decide (((one.map PyData.int).length : Int) = 3))) (et_eqI (ev_lenT (l := one.map PyData.int) rfl m.len (by walk_at "var")) ev_int)
          (fun _ => ev_as (ev_slT (l := ws.map wallD) (by walk_at "var") eo_none (eo_some (by walk_at "var"))) (by rw [cut_take]; unfold mates; rw [if_pos rfl, List.map_take])) (fun hh => by have := of_decide_eq_false hh.symm; rw [List.length_map, l1] at this; omega))
    · rintro j d ds' hj ⟨z3, z4, rfl⟩
      rw [List.getElem?_map] at hj
      obtain ⟨o, ho, rfl⟩ := Option.map_eq_some_iff.mp hj
      have m2 := mates_mem m1 (List.mem_of_getElem? ho)
      have l2 := H.len o m2
      have s2 : SmRow o := fun x hx => sm_20 (H.sm o m2 x hx)
      have hjl : j < (mates n ws i one).length := by
        rcases Nat.lt_or_ge j (mates n ws i one).length with q | q
        · exact q
        · rw [List.getElem?_eq_none q] at ho; cases ho
      have mf := mates_few (n := n) (i := i) (one := one) few
      have nowf : (upC n ws i ++ ((mates n ws i one).take j).filterMap (tryC n ws one)).length ≤ 420 := by
        rw [List.length_append]
        have := List.length_filterMap_le (tryC n ws one) ((mates n ws i one).take j)
        rw [List.length_take] at this; omega
      refine ⟨_, rfl, ?_⟩
      refine run_to (ds1 := [.dat (wallsD ws), .own ((upC n ws i ++ ((mates n ws i one).take j).filterMap (tryC n ws one)).map wallD), .dat (.int (i : Nat)), .dat (wallD one), .dat (wallD o), .dat (optD (cutO n one o)), .un])
        (rs_setP (i := 5) (P := (· = optD (cutO n one o))) (by walk_at "sto") (ev_callD (PA := (· = [.dat (wallD one), .dat (wallD o)])) (Pc := pcCut) ⟨hCut⟩ rfl (ed_dat (by walk_at "var") (ed_dat (by walk_at "var") ed_nil)) (fun l hl => ⟨_, ⟨n, one, o, hl, h2, l1, l2, s1, s2, rfl⟩, fun d hd => hd⟩)) (fun d hd => by subst hd; rfl)) ?_
      have nx := stepC_next (n := n) (ws := ws) (i := i) (j := j) (one := one) ho
      cases e : cutO n one o with
      | none =>
        have et : tryC n ws one o = none := by unfold tryC; rw [e]; rfl
        rw [et] at nx
        refine run_one (rs_if (PT := (· = (false && true))) (et_of (ew_and (x := false) (y := true) (et_notN (d := .none) (by walk_at "var") (.inl ⟨rfl, rfl⟩)) (fun h => by cases h))) (fun h => by cases h) (fun _ => run_nil ⟨.dat (wallD o), .dat .none, by rw [nx]; simp [optD]⟩))
      | some q =>
        obtain ⟨q1, q2, q3⟩ := cut_V h2 l1 l2 e
        have sq : SmRow q := fun x hx => sm_42 (cut_small h2 l1 l2 (H.sm one m1) (H.sm o m2) e x hx)
        refine run_one (rs_if (PT := (· = (true && goodC n ws q))) (et_of (ew_and (x := true) (y := goodC n ws q) (et_notN (d := wallD q) (by walk_at "var") (.inr ⟨_, rfl, rfl⟩))
          (fun _ => ew_and1 (et_as (et_eq (d := .list (((ws.map wallD).filter (fun d => decide (dotn n (rowOf d) q < 0))).map (fun _ => PyData.int 1))) (e := .list []) (ev_lc (ef_filter [("_law_shut", 6)] (items := ws.map wallD) (fun d => decide (dotn n (rowOf d) q < 0)) (fun _ => .int 1) (by walk_at "blk") (wk_tup (by walk_at "var")) (tg_name (i := 6) (by walk_at "sto")) (by rw [List.length_map]; show _ ≤ 100000; omega) ?_)) (ev_lst ea_nil (hl := by show 0 ≤ 100000; decide)) (shaped_onesL _) (by decide +kernel))
            (by rw [eqv_nilD, anyN (β := Nat) (fun r => decide (dotn n r q < 0)) (fun _ => PyData.int 1), goodC_any]))))) ?_ ?_)
        · intro d hd
          obtain ⟨r, hr, rfl⟩ := mem_wall hd
          exact ⟨_, rfl, by simp, et_lt (i := dotn n (rowOf (wallD r)) q) (j := 0) (ev_callD (PA := (· = [.dat (wallD r), .dat (wallD q)])) (Pc := pcVal) ⟨hVal⟩ rfl (ed_dat (by walk_at "var") (ed_dat (by walk_at "var") ed_nil)) (fun l hl => ⟨_, ⟨n, r, q, hl, H.len r hr, q1, by omega, fun x hx => sm_20 (H.sm r hr x hx), sq, rfl⟩, fun d hd => by rw [rowOf_wall]; exact hd⟩)) ev_int, fun _ => ev_int⟩
        · intro hh
          have hg : goodC n ws q = true := by simpa using hh.symm
          have et : tryC n ws one o = some q := by unfold tryC; rw [e]; simp [Option.filter, hg]
          rw [et] at nx
          exact run_one (rs_append (i := 1) (P := (· = wallD q)) rfl (by walk_at "vis") rfl (by rw [List.length_map]; show _ < 100000; omega) (by walk_at "var") (fun d hd => ⟨.dat (wallD o), .dat (wallD q), by subst hd; rw [nx]; simp [optD]⟩))
        · intro hh
          have hg : goodC n ws q = false := by simpa using hh.symm
          have et : tryC n ws one o = none := by unfold tryC; rw [e]; simp [Option.filter, hg]
          rw [et] at nx
          exact run_nil ⟨.dat (wallD o), .dat (wallD q), by rw [nx]; simp [optD]⟩
    · obtain ⟨z3, z4, rfl⟩ := h
      refine ⟨.dat (.int (i : Nat)), .dat (wallD one), z3, z4, ?_⟩
      rw [upC_next h1, List.length_map, List.take_length]; rfl
  rintro ds' ⟨z1, z2, z3, z4, rfl⟩
  exact run_freeze (i := 1) (l := (cornersL n ws).map wallD) rfl (run_one (rs_ret (by walk_at "var") rfl))

/-! _law_mean(corners) -/
abbrev sMean : Stmt := top 50
theorem scMean : FnScope ["_law_corners_here", "_law_found", "_law_point_here", "_law_x", "_law_y"] ["_law_corners_here"] (defScope sMean) := ⟨rfl, rfl, rfl, by decide +kernel, rfl, by decide +kernel, by decide +kernel⟩
def pcMean : List AD → (D → Prop) → Prop := fun ads R => ∃ (n : Nat) (cs : List (List Int)), ads = [.dat (.list (cs.map wallD))] ∧ Two n ∧ cs ≠ [] ∧ cs.length ≤ 400 ∧ (∀ c ∈ cs, c.length = n ∧ 1 ≤ c.getD (n - 1) 0 ∧ ∀ x ∈ c, x.natAbs ≤ 2 ^ 42) ∧ R = (· = wallD (meanL n cs))
theorem init_wall {p : List Int} {n : Nat} (h1 : 1 ≤ n) (hp : p.length = n) : cutD (p.map PyData.int) none (some (-1)) = p.dropLast.map PyData.int := by
  rw [cut_init _ (by rw [List.length_map]; omega), ← List.map_dropLast]
theorem ok_Mean (m : Mg mg) (F : Fun K "_law_mean" "_law_mean" sMean f fd) : FnOk P w K mg base CX0 (k + 1) f fd ["_law_corners_here"] (spD K pcMean) := by
  refine fn_mkD F scMean (fun ads R h => by obtain ⟨_, _, rfl, _⟩ := h; rfl) fun c ads R h hz => ?_
  obtain ⟨n, cs, rfl, h2, hne, few, hcs, rfl⟩ := h
  have hn : 2 ≤ n ∧ n ≤ 3 := by rcases h2 with rfl | rfl <;> omega
  obtain ⟨c0, cs, rfl⟩ : ∃ c r, cs = c :: r := by cases cs with | nil => exact absurd rfl hne | cons c r => exact ⟨c, r, rfl⟩
  have hb : ∀ c ∈ c0 :: cs, 1 ≤ (toV c).b := fun c hc => by rw [← last_V h2 (hcs c hc).1]; exact (hcs c hc).2.1
  have h0 := hcs c0 (by simp)
  simp only [List.length_cons] at few
  have upto : ∀ i, i ≤ cs.length → ((cs.take i).foldl (addF n) c0).length = n ∧ ∀ x ∈ (cs.take i).foldl (addF n) c0, Wd x := fun i hi => by
    obtain ⟨f1, _, f3, _⟩ := fold_V h2 (cs.take i) c0 1 h0.1 (hb c0 (by simp)) (fun x hx => Nat.lt_of_le_of_lt (h0.2.2 x hx) (by decide)) (Nat.le_refl _) (fun c hc => by
      have hc' := List.mem_of_mem_take hc
      exact ⟨(hcs c (by simp [hc'])).1, hb c (by simp [hc']), (hcs c (by simp [hc'])).2.2⟩)
    exact ⟨f1, fun x hx => Nat.lt_of_lt_of_le (f3 x hx) (Nat.pow_le_pow_right (by decide) (by rw [List.length_take]; omega))⟩
  refine run_to (ds1 := [.dat (.list ((c0 :: cs).map wallD)), .dat (wallD c0), .un, .un, .un]) (rs_setP (i := 1) (P := (· = wallD c0)) (by walk_at "sto") (ev_ixL (l := (c0 :: cs).map wallD) (by walk_at "var") ev_int (atI_nat (j := 0) (v := wallD c0) rfl)) (fun d hd => by subst hd; rfl)) ?_
  refine run_cons (Mid := fun ds' => ∃ z : SD, ds' = [.dat (.list ((c0 :: cs).map wallD)), .dat (wallD (cs.foldl (addF n) c0)), z, .un, .un])
    (rs_for (items := cs.map wallD) (wk_list (ev_as (ev_slL (l := (c0 :: cs).map wallD) (by walk_at "var") (eo_some ev_int) eo_none) (by rw [show (1 : Int) = ((1 : Nat) : Int) from rfl, cut_drop]; rfl))) (tg_name (i := 2) (by walk_at "sto"))
      (fun i ds' => ∃ z : SD, ds' = [.dat (.list ((c0 :: cs).map wallD)), .dat (wallD ((cs.take i).foldl (addF n) c0)), z, .un, .un]) ⟨_, rfl⟩ ?_ (fun ds' h => by
        rw [List.length_map, List.take_length] at h; exact h)) ?_
  · rintro i d ds' hi ⟨z, rfl⟩
    rw [List.getElem?_map] at hi
    obtain ⟨p, hp, rfl⟩ := Option.map_eq_some_iff.mp hi
    have hil : i < cs.length := by
      rcases Nat.lt_or_ge i cs.length with q | q
      · exact q
      · rw [List.getElem?_eq_none q] at hp; cases hp
    have mp := hcs p (by simp [List.mem_of_getElem? hp])
    obtain ⟨u1, u2⟩ := upto i (by omega)
    have nx : (cs.take (i + 1)).foldl (addF n) c0 = addF n ((cs.take i).foldl (addF n) c0) p := by rw [List.take_add_one, hp, List.foldl_append]; rfl
    rw [nx]
    generalize (cs.take i).foldl (addF n) c0 = G at *
    have sp : SmRow p := fun x hx => sm_42 (mp.2.2 x hx)
    have wl : Wd (G.getD (n - 1) 0) := by
      rw [List.getD_eq_getElem?_getD, List.getElem?_eq_getElem (by omega)]; exact u2 _ (List.getElem_mem _)
    have sl : Sm (p.getD (n - 1) 0) := SmRow.at sp _
    have flip : ∀ {x y : Int}, Wd x → Sm y → CMulW x y := fun {x y} hx hy => wide_mul (a := 40000) (b := 400) hx hy (by decide) (by decide) (by decide)
    refine ⟨_, rfl, run_one (rs_setP (i := 1) (P := (· = wallD (addF n G p))) (by walk_at "sto") (ev_as (ev_catT (l := ((G.dropLast.zip p.dropLast).map fun z => z.1 * p.getD (n - 1) 0 + z.2 * G.getD (n - 1) 0).map PyData.int) (m := [.int (G.getD (n - 1) 0 * p.getD (n - 1) 0)])
      (ev_tupleP (PA := (· = rowD ((G.dropLast.zip p.dropLast).map fun z => z.1 * p.getD (n - 1) 0 + z.2 * G.getD (n - 1) 0))) rfl m.tuple ((ev_lc (ef_map [("_law_x", 3), ("_law_y", 4)] (items := zipL (G.dropLast.map PyData.int) (p.dropLast.map PyData.int)) (pairF (fun a b => a * p.getD (n - 1) 0 + b * G.getD (n - 1) 0)) (by walk_at "blk")
          (wk_zip rfl m.zip (ev_as (ev_slT (l := G.map PyData.int) (by walk_at "var") eo_none (eo_some (ev_neg ev_int))) (by rw [init_wall (by omega) u1])) (ev_as (ev_slT (l := p.map PyData.int) (by walk_at "var") eo_none (eo_some (ev_neg ev_int))) (by rw [init_wall (by omega) mp.1])) (.inr ⟨rfl, rfl⟩)) (tg_two (i := 3) (j := 4) (by walk_at "sto") (by walk_at "sto")) ?_ ?_)).is ?_)
        (fun x hx => ⟨_, .inl hx, rfl⟩))
      (ev_tup (ea_cons (ev_mul (i := G.getD (n - 1) 0) (j := p.getD (n - 1) 0) (ev_ixT (l := G.map PyData.int) (by walk_at "var") (ev_neg ev_int) (last_at (by omega) u1)) (ev_ixT (l := p.map PyData.int) (by walk_at "var") (ev_neg ev_int) (last_at (by omega) mp.1)) (flip wl sl)) ea_nil) (hl := by show 1 ≤ 100000; decide)) (by simp; show _ ≤ 100000; omega)) (by unfold wallD addF; rw [List.map_append]; rfl)) (fun d hd => ⟨_, by subst hd; rfl⟩))⟩
    · rw [zip_ints, List.length_map, List.length_zip, List.length_dropLast]; show _ ≤ 100000; omega
    · intro d hd
      rw [zip_ints] at hd
      obtain ⟨z, hz', rfl⟩ := List.mem_map.mp hd
      have m1 := (List.dropLast_sublist G).subset (List.of_mem_zip hz').1
      have m2 := (List.dropLast_sublist p).subset (List.of_mem_zip hz').2
      exact ⟨[(3, .int z.1), (4, .int z.2)], ⟨_, _, rfl, rfl⟩, by simp, ev_add (i := z.1 * p.getD (n - 1) 0) (j := z.2 * G.getD (n - 1) 0)
        (ev_mul (by walk_at "var") (ev_ixT (l := p.map PyData.int) (by walk_at "var") (ev_neg ev_int) (last_at (by omega) mp.1)) (flip (u2 _ m1) sl))
        (ev_mul (by walk_at "var") (ev_ixT (l := G.map PyData.int) (by walk_at "var") (ev_neg ev_int) (last_at (by omega) u1)) (Sm.mulWd (sp _ m2) wl))⟩
    · rw [zip_ints, List.map_map]; unfold rowD; rw [List.map_map]; rfl
  rintro ds' ⟨z, rfl⟩
  obtain ⟨u1, u2⟩ := upto cs.length (Nat.le_refl _)
  rw [List.take_length] at u1 u2
  have em : meanL n (c0 :: cs) = lastTimes n (cs.foldl (addF n) c0) ((cs.length + 1 : Nat) : Int) := rfl
  rw [em]
  generalize cs.foldl (addF n) c0 = G at *
  have wl : Wd (G.getD (n - 1) 0) := by
    rw [List.getD_eq_getElem?_getD, List.getElem?_eq_getElem (by omega)]; exact u2 _ (List.getElem_mem _)
  exact run_one (rs_ret (ev_as (ev_catT (l := G.dropLast.map PyData.int) (m := [.int (G.getD (n - 1) 0 * ((cs.length + 1 : Nat) : Int))]) (ev_as (ev_slT (l := G.map PyData.int) (by walk_at "var") eo_none (eo_some (ev_neg ev_int))) (by rw [init_wall (by omega) u1]))
    (ev_tup (ea_cons (ev_mul (i := G.getD (n - 1) 0) (j := ((cs.length + 1 : Nat) : Int)) (ev_ixT (l := G.map PyData.int) (by walk_at "var") (ev_neg ev_int) (last_at (by omega) u1)) (ev_as (ev_lenL (l := (c0 :: cs).map wallD) rfl m.len (by walk_at "var")) (by rw [List.length_map]; rfl)) (wide_mul (a := 40000) (b := 400) wl (Nat.lt_of_le_of_lt (show _ ≤ 1000 by rw [Int.natAbs_natCast]; omega) (by decide)) (by decide) (by decide) (by decide))) ea_nil) (hl := by show 1 ≤ 100000; decide)) (by simp; show _ ≤ 100000; omega)) (by unfold wallD lastTimes; rw [List.map_append]; rfl)) rfl)
end

end K8

set_option Elab.async false
set_option maxRecDepth 100000
set_option exponentiation.threshold 2000
set_option linter.all false
set_option maxHeartbeats 1000000
namespace K8
open PySem L2 Dl
local macro_rules | `(tactic| walk_at "vis") => `(tactic| first | exact Or.inl rfl | exact Or.inr (Or.inl rfl) | exact Or.inr (Or.inr rfl))
local macro_rules | `(tactic| walk_at "sto") => `(tactic| first | exact ⟨rfl, Or.inl rfl, Or.inl rfl⟩ | exact ⟨rfl, Or.inl rfl, Or.inr rfl⟩ | exact ⟨rfl, Or.inr rfl, Or.inl rfl⟩)
local macro_rules | `(tactic| walk_at "var") => `(tactic| first
  | exact ev_var 0 rfl (by walk_at "vis") rfl | exact ev_var 1 rfl (by walk_at "vis") rfl | exact ev_var 2 rfl (by walk_at "vis") rfl | exact ev_var 3 rfl (by walk_at "vis") rfl
  | exact ev_var 4 rfl (by walk_at "vis") rfl | exact ev_var 5 rfl (by walk_at "vis") rfl | exact ev_var 6 rfl (by walk_at "vis") rfl | exact ev_var 7 rfl (by walk_at "vis") rfl
  | exact ev_var 8 rfl (by walk_at "vis") rfl | exact ev_var 9 rfl (by walk_at "vis") rfl | exact ev_var 10 rfl (by walk_at "vis") rfl | exact ev_var 11 rfl (by walk_at "vis") rfl
  | exact ev_var 12 rfl (by walk_at "vis") rfl | exact ev_var 13 rfl (by walk_at "vis") rfl | exact ev_var 14 rfl (by walk_at "vis") rfl | exact ev_var 15 rfl (by walk_at "vis") rfl)

local macro_rules | `(tactic| walk_at "ev") => `(tactic| first
  | exact ev_int | exact ev_bl | exact ev_str | exact ev_non
  | walk_at "var"
  | (refine ev_neg ?_ <;> walk_at "ev")
  | (refine ev_add ?_ ?_ <;> walk_at "ev")
  | (refine ev_sub ?_ ?_ <;> walk_at "ev"))

local macro_rules | `(tactic| walk_at "blk") => `(tactic| (dsimp only; decide +kernel))
theorem ev_shuts {n : Nat} {a b : List (List Int)} {far : List Int} : (a.map wallD ++ b.map wallD) ++ [wallD far] = (a ++ b ++ [far]).map wallD := by simp
theorem brokenR {n : Nat} {b : List (List Int)} {far mid : List Int} : decide ((((b ++ [far]).map wallD).filter (fun d => decide (dotn n (rowOf d) mid ≤ 0))).map (fun _ => PyData.int 1) = []) = (b ++ [far]).all fun s => decide (0 < dotn n s mid) := by
  rw [anyN (β := Nat) (fun r => decide (dotn n r mid ≤ 0)) (fun _ => PyData.int 1), Bool.eq_iff_iff]
  simp only [Bool.not_eq_true', List.any_map, List.all_eq_true, List.any_eq_false, Function.comp, id, decide_eq_true_eq]
  exact ⟨fun h w hw => by have := h w hw; omega, fun h w hw => by have := h w hw; omega⟩
theorem lay_walls (cs : List (List Int)) : PyData.canLayAll0 (cs.map wallD) = true ∧ PyData.depthAll (cs.map wallD) ≤ 3 := by
  induction cs with
  | nil => simp [PyData.canLayAll0, PyData.depthAll]
  | cons r cs ih =>
    have h2 := depth_ints r
    have h3 := ih.2
    refine ⟨by simp [PyData.canLayAll0, PyData.canLay0, wallD, canLay_ints]; exact ih.1, ?_⟩
    simp only [List.map_cons, PyData.depthAll, wallD, PyData.depth]
    unfold wallD at h3
    omega
theorem shaped_wallsL (cs : List (List Int)) : SeqAt.shaped (.list (cs.map wallD)) = true := by
  obtain ⟨h1, h2⟩ := lay_walls cs
  unfold SeqAt.shaped
  simp only [PyData.canLay0, h1, Bool.true_and, decide_eq_true_eq]
  simp only [PyData.depth]; omega
def longL (ps : List (List Int)) : List (List Int) := (List.range 7).flatMap fun i : Nat => ps.map (· ++ [(i : Int) - 3])
def upL (ps : List (List Int)) (i : Nat) : List (List Int) := (List.range i).flatMap fun i : Nat => ps.map (· ++ [(i : Int) - 3])
theorem upL_next (ps : List (List Int)) (i : Nat) : upL ps (i + 1) = upL ps i ++ ps.map (· ++ [(i : Int) - 3]) := by
  unfold upL; rw [List.range_succ, List.flatMap_append]; simp
theorem upL_len (ps : List (List Int)) (i : Nat) : (upL ps i).length = i * ps.length := by
  induction i with
  | zero => simp [upL]
  | succ i ih => rw [upL_next, List.length_append, ih, List.length_map]; grind
/-- points of a small box, without their bound -/
structure Near (i : Nat) (ps : List (List Int)) : Prop where
  few : ps.length ≤ 7 ^ i
  len : ∀ p ∈ ps, p.length = i
  sm : ∀ p ∈ ps, ∀ x ∈ p, x.natAbs ≤ 3
theorem Near.long {i : Nat} {ps : List (List Int)} (h : Near i ps) : Near (i + 1) (longL ps) := by
  have mem : ∀ p ∈ longL ps, ∃ q ∈ ps, ∃ j : Nat, j < 7 ∧ p = q ++ [(j : Int) - 3] := fun p hp => by
    unfold longL at hp
    obtain ⟨j, hj, hp⟩ := List.mem_flatMap.mp hp
    obtain ⟨q, hq, rfl⟩ := List.mem_map.mp hp
    exact ⟨q, hq, j, List.mem_range.mp hj, rfl⟩
  refine ⟨?_, fun p hp => ?_, fun p hp x hx => ?_⟩
  · have : (longL ps).length = 7 * ps.length := upL_len ps 7
    rw [this, Nat.pow_succ]
    have := h.few; omega
  · obtain ⟨q, hq, j, _, rfl⟩ := mem p hp
    rw [List.length_append, h.len q hq]; rfl
  · obtain ⟨q, hq, j, hj, rfl⟩ := mem p hp
    rcases List.mem_append.mp hx with e | e
    · exact h.sm q hq x e
    · simp at e; omega
section
variable {P : Program} {w : World} {K : Frag} {mg : Str → Option Value} {base : Heap} {k : Nat} {f : Addr} {fd : FuncData}
/-! _law_is_broken(shuts, stricts, shut) -/
abbrev sBr : Stmt := top 51
theorem scBr : FnScope ["_law_shuts", "_law_stricts", "_law_shut", "_law_far", "_law_corners_here", "_law_middle", "_law_x", "_law_it"] ["_law_shuts", "_law_stricts", "_law_shut"] (defScope sBr) := ⟨rfl, rfl, rfl, by decide +kernel, rfl, by decide +kernel, by decide +kernel⟩
def pcBr : List AD → (D → Prop) → Prop := fun ads R => ∃ (n : Nat) (a b : List (List Int)) (g : List Int), ads = [.dat (wallsD a), .dat (wallsD b), .dat (wallD g)] ∧ Two n ∧ WsOk n (a ++ b ++ [negL g]) ∧ R = (· = .bool (brokenB n a b g))
theorem ok_Br (m : Mg mg) (F : Fun K "_law_is_broken" "_law_is_broken" sBr f fd) (hCor : Has P w K mg base k "_law_corners" (spD K pcCor)) (hMean : Has P w K mg base k "_law_mean" (spD K pcMean)) (hVw : Has P w K mg base k "_law_value" (spD K pcVw)) : FnOk P w K mg base CX0 (k + 1) f fd ["_law_shuts", "_law_stricts", "_law_shut"] (spD K pcBr) := by
  refine fn_mkD F scBr (fun ads R h => by obtain ⟨_, _, _, _, rfl, _⟩ := h; rfl) fun c ads R h hz => ?_
  obtain ⟨n, a, b, g, rfl, h2, H, rfl⟩ := h
  have hn : 2 ≤ n ∧ n ≤ 3 := by rcases h2 with rfl | rfl <;> omega
  have few := H.few
  simp only [List.length_append, List.length_singleton] at few
  have hg : g.length = n := by have := H.len (negL g) (by simp); unfold negL at this; rwa [List.length_map] at this
  refine run_to (ds1 := [.dat (wallsD a), .dat (wallsD b), .dat (wallD g), .dat (wallD (negL g)), .un, .un, .un, .un]) (rs_setP (i := 3) (P := (· = wallD (negL g))) (by walk_at "sto") (ev_tupleP (PA := (· = rowD (negL g))) rfl m.tuple ((ev_lc (ef_map [("_law_x", 6)] (items := g.map PyData.int) (intF (- ·)) (by walk_at "blk") (wk_tup (by walk_at "var")) (tg_name (i := 6) (by walk_at "sto")) (by rw [List.length_map, hg]; show n ≤ 100000; omega) ?_)).is (by rw [map_intF]; rfl))
      (fun x hx => ⟨_, .inl hx, rfl⟩)) (fun d hd => by subst hd; rfl)) ?_
  · intro d hd
    obtain ⟨x, hx, rfl⟩ := mem_int hd
    exact ⟨_, rfl, by simp, ev_neg (i := x) (by walk_at "var")⟩
  refine run_to (ds1 := [.dat (wallsD a), .dat (wallsD b), .dat (wallD g), .dat (wallD (negL g)), .dat (cornD n (a ++ b ++ [negL g])), .un, .un, .un])
    (rs_setP (i := 4) (P := (· = cornD n (a ++ b ++ [negL g]))) (by walk_at "sto") (ev_callD (PA := (· = [.dat (wallsD (a ++ b ++ [negL g]))])) (Pc := pcCor) ⟨hCor⟩ rfl
      (ed_dat (ev_as (ev_catT (l := a.map wallD ++ b.map wallD) (m := [wallD (negL g)]) (ev_catT (l := a.map wallD) (m := b.map wallD) (by walk_at "var") (by walk_at "var") (by rw [List.length_map, List.length_map]; show _ ≤ 100000; omega)) (ev_tup (ea_cons (by walk_at "var") ea_nil) (hl := by show 1 ≤ 100000; decide)) (by simp; show _ ≤ 100000; omega)) (by unfold wallsD; rw [ev_shuts (n := n)])) ed_nil)
      (fun l hl => ⟨_, ⟨n, a ++ b ++ [negL g], hl, h2, H, rfl⟩, fun d hd => hd⟩)) (fun d hd => by subst hd; rfl)) ?_
  have hcs := fun c (hc : c ∈ cornersL n (a ++ b ++ [negL g])) => corner_of h2 H hc
  have hfew := corners_few (n := n) H.few
  have eB : brokenB n a b g = (!decide (cornersL n (a ++ b ++ [negL g]) = []) && ((b ++ [negL g]).all fun s => decide (0 < dotn n s (meanL n (cornersL n (a ++ b ++ [negL g])))))) := rfl
  rw [eB]
  unfold cornD
  generalize cornersL n (a ++ b ++ [negL g]) = cs at *
  refine run_cons (Mid := fun ds' => cs ≠ [] ∧ ds' = [.dat (wallsD a), .dat (wallsD b), .dat (wallD g), .dat (wallD (negL g)), .dat (.list (cs.map wallD)), .un, .un, .un]) (rs_if (PT := (· = decide (cs.map wallD = []))) (et_as (et_eq (d := .list (cs.map wallD)) (e := .list []) (by walk_at "var") (ev_lst ea_nil (hl := by show 0 ≤ 100000; decide)) (shaped_wallsL cs) (by decide +kernel)) (by rw [eqv_nilD]))
    (fun hh => run_one (rs_ret ev_bl (by
      have : cs = [] := by simpa using of_decide_eq_true hh.symm
      show PyData.bool false = _; rw [decide_eq_true this]; rfl)))
    (fun hh => run_nil ⟨by have := of_decide_eq_false hh.symm; simpa using this, rfl⟩)) ?_
  rintro ds' ⟨hne, rfl⟩
  obtain ⟨m1, m2, m3, _⟩ := mean_V h2 hne hfew (fun c hc => ⟨(hcs c hc).1, (hcs c hc).2.1, (hcs c hc).2.2.2⟩)
  refine run_to (ds1 := [.dat (wallsD a), .dat (wallsD b), .dat (wallD g), .dat (wallD (negL g)), .dat (.list (cs.map wallD)), .dat (wallD (meanL n cs)), .un, .un])
    (rs_setP (i := 5) (P := (· = wallD (meanL n cs))) (by walk_at "sto") (ev_callD (PA := (· = [.dat (.list (cs.map wallD))])) (Pc := pcMean) ⟨hMean⟩ rfl (ed_dat (by walk_at "var") ed_nil)
      (fun l hl => ⟨_, ⟨n, cs, hl, h2, hne, hfew, fun c hc => ⟨(hcs c hc).1, (hcs c hc).2.1, (hcs c hc).2.2.2⟩, rfl⟩, fun d hd => hd⟩)) (fun d hd => by subst hd; rfl)) ?_
  have wd : ∀ x ∈ meanL n cs, Wd x := fun x hx => Nat.lt_of_lt_of_le (m3 x hx) (Nat.pow_le_pow_right (by decide) (by decide))
  generalize meanL n cs = mid at *
  rw [decide_eq_false hne]
  refine run_one (rs_ret (ev_as (ev_eq (d := .list ((((b ++ [negL g]).map wallD).filter (fun d => decide (dotn n (rowOf d) mid ≤ 0))).map (fun _ => PyData.int 1))) (e := .list []) (ev_lc (ef_filter [("_law_it", 7)] (items := (b ++ [negL g]).map wallD) (fun d => decide (dotn n (rowOf d) mid ≤ 0)) (fun _ => .int 1) (by walk_at "blk")
    (wk_tup (ev_as (ev_catT (l := b.map wallD) (m := [wallD (negL g)]) (by walk_at "var") (ev_tup (ea_cons (by walk_at "var") ea_nil) (hl := by show 1 ≤ 100000; decide)) (by simp; show _ ≤ 100000; omega)) (by rw [List.map_append]; rfl))) (tg_name (i := 7) (by walk_at "sto")) (by simp; show _ ≤ 100000; omega) ?_)) (ev_lst ea_nil (hl := by show 0 ≤ 100000; decide)) (shaped_onesL _) (by decide +kernel))
      (by rw [eqv_nilD, brokenR])) (by simp))
  intro d hd
  obtain ⟨r, hr, rfl⟩ := mem_wall hd
  have hr2 : r ∈ a ++ b ++ [negL g] := by
    simp only [List.mem_append] at hr ⊢
    rcases hr with hr | hr
    · exact .inl (.inr hr)
    · exact .inr hr
  exact ⟨_, rfl, by simp, et_le (i := dotn n (rowOf (wallD r)) mid) (j := 0) (ev_callD (PA := (· = [.dat (wallD r), .dat (wallD mid)])) (Pc := pcVw) ⟨hVw⟩ rfl (ed_dat (by walk_at "var") (ed_dat (by walk_at "var") ed_nil)) (fun l hl => ⟨_, ⟨n, r, mid, hl, H.len r hr2, m1, by omega, fun x hx => sm_20 (H.sm r hr2 x hx), wd, rfl⟩, fun d hd => by rw [rowOf_wall]; exact hd⟩)) ev_int, fun _ => ev_int⟩

/-! _law_longer(points) -/
abbrev sLo : Stmt := top 53
theorem scLo : FnScope ["_law_points", "_law_found", "_law_x", "_law_point_here"] ["_law_points"] (defScope sLo) := ⟨rfl, rfl, rfl, by decide +kernel, rfl, by decide +kernel, by decide +kernel⟩
def pcLo : List AD → (D → Prop) → Prop := fun ads R => ∃ ps : List (List Int), ads = [.dat (.list (ps.map wallD))] ∧ ps.length ≤ 100 ∧ (∀ p ∈ ps, p.length ≤ 100) ∧ R = (· = .list ((longL ps).map wallD))
theorem ok_Lo (m : Mg mg) (F : Fun K "_law_longer" "_law_longer" sLo f fd) : FnOk P w K mg base CX0 (k + 1) f fd ["_law_points"] (spD K pcLo) := by
  refine fn_mkD F scLo (fun ads R h => by obtain ⟨_, rfl, _⟩ := h; rfl) fun c ads R h hz => ?_
  obtain ⟨ps, rfl, few, short, rfl⟩ := h
  refine run_to (ds1 := [.dat (.list (ps.map wallD)), .own [], .un, .un]) (rs_setF (i := 1) (PL := (· = [])) (by walk_at "sto") (ef_lst ea_nil (fun l hl => by subst hl; show 0 ≤ 100000; decide)) (fun l hl => by subst hl; rfl)) ?_
  refine run_cons (Mid := fun ds' => ∃ z : SD, ds' = [.dat (.list (ps.map wallD)), .own ((longL ps).map wallD), z, .un])
    (rs_for (items := intsD (-3) 7) (wk_is (wk_range2 (i := -3) (j := 4) rfl m.range (ea_cons (ev_neg ev_int) (ea_cons ev_int ea_nil)) (by decide) (by decide) (by decide) (by decide)) rfl) (tg_name (i := 2) (by walk_at "sto"))
      (fun i ds' => ∃ z : SD, ds' = [.dat (.list (ps.map wallD)), .own ((upL ps i).map wallD), z, .un]) ⟨_, rfl⟩ ?_ (fun ds' h => by
        rw [intsD_length] at h; exact h)) ?_
  · rintro i d ds' hi ⟨z, rfl⟩
    obtain ⟨hi', rfl⟩ := intsD_get hi
    refine ⟨_, rfl, run_one (rs_extendL (i := 1) (PL := (· = (ps.map (· ++ [(i : Int) - 3])).map wallD)) rfl (by walk_at "vis") rfl (ev_fresh (ef_map [("_law_point_here", 3)] (items := ps.map wallD) (fun d => wallD (rowOf d ++ [(i : Int) - 3])) (by walk_at "blk") (wk_list (by walk_at "var")) (tg_name (i := 3) (by walk_at "sto")) (by rw [List.length_map]; show _ ≤ 100000; omega) ?_)
      (fun l hl => ⟨l, rfl, by rw [hl, map_wallF (fun r => wallD (r ++ [(i : Int) - 3])), List.map_map]; rfl⟩)) (fun mm hm => by subst hm; rw [List.length_map, upL_len, List.length_map, List.length_map]; show _ ≤ 100000; have : i * ps.length ≤ 7 * 100 := Nat.mul_le_mul (by omega) few; omega) (fun mm hm => ⟨_, by subst hm; rw [upL_next, List.map_append]; rfl⟩))⟩
    intro d hd
    obtain ⟨r, hr, rfl⟩ := mem_wall hd
    refine ⟨_, rfl, by simp, ?_⟩
    rw [rowOf_wall]
    exact ev_as (ev_catT (l := r.map PyData.int) (m := [.int (-3 + (i : Int))]) (by walk_at "var") (ev_tup (ea_cons (by walk_at "var") ea_nil) (hl := by show 1 ≤ 100000; decide)) (by rw [List.length_map]; have := short r hr; show _ + 1 ≤ 100000; omega)) (by unfold wallD; rw [List.map_append, show -3 + (i : Int) = (i : Int) - 3 by omega]; rfl)
  rintro ds' ⟨z, rfl⟩
  exact run_freeze (i := 1) (l := (longL ps).map wallD) rfl (run_one (rs_ret (by walk_at "var") rfl))

/-! _law_is_kept_nearby(width, shuts, stricts, shut) -/
abbrev sKn : Stmt := top 52
theorem scKn : FnScope ["_law_width", "_law_shuts", "_law_stricts", "_law_shut", "_law_points", "_law_at", "_law_bound", "_law_point_here"] ["_law_width", "_law_shuts", "_law_stricts", "_law_shut"] (defScope sKn) := ⟨rfl, rfl, rfl, by decide +kernel, rfl, by decide +kernel, by decide +kernel⟩
def pcKn : List AD → (D → Prop) → Prop := fun ads R => ∃ (n : Nat) (a b : List (List Int)) (g : List Int), ads = [.dat (.int n), .dat (wallsD a), .dat (wallsD b), .dat (wallD g)] ∧ Two n ∧ Sr n a ∧ Sr n b ∧ g.length = n ∧ SmRow g ∧ Follows n a b g ∧ R = (· = .bool true)
theorem ok_Kn (m : Mg mg) (F : Fun K "_law_is_kept_nearby" "_law_is_kept_nearby" sKn f fd) (hLo : Has P w K mg base k "_law_longer" (spD K pcLo)) (hLp : Has P w K mg base k "_law_is_point" (spD K pcLp)) (hVal : Has P w K mg base k "_law_value" (spD K pcVal)) : FnOk P w K mg base CX0 (k + 1) f fd ["_law_width", "_law_shuts", "_law_stricts", "_law_shut"] (spD K pcKn) := by
  refine fn_mkD F scKn (fun ads R h => by obtain ⟨_, _, _, _, rfl, _⟩ := h; rfl) fun c ads R h hz => ?_
  obtain ⟨n, a, b, g, rfl, h2, ha, hb, hg, sg, hf, rfl⟩ := h
  have hn : 2 ≤ n ∧ n ≤ 3 := by rcases h2 with rfl | rfl <;> omega
  refine run_to (ds1 := [.dat (.int n), .dat (wallsD a), .dat (wallsD b), .dat (wallD g), .dat (.list (([[]] : List (List Int)).map wallD)), .un, .un, .un]) (rs_setP (i := 4) (P := (· = .list (([[]] : List (List Int)).map wallD))) (by walk_at "sto") (ev_as (ev_lst (ea_cons (ev_tup ea_nil) ea_nil) (hl := by show 1 ≤ 100000; decide)) rfl) (fun d hd => by subst hd; rfl)) ?_
  refine run_cons (Mid := fun ds' => ∃ (ps : List (List Int)) (z : SD), Near (n - 1) ps ∧ ds' = [.dat (.int n), .dat (wallsD a), .dat (wallsD b), .dat (wallD g), .dat (.list (ps.map wallD)), z, .un, .un])
    (rs_for (items := intsD 0 ((n : Int) - 1).toNat) (wk_range1 (n := (n : Int) - 1) rfl m.range (ev_sub (by walk_at "var") ev_int) (by omega) (by omega)) (tg_name (i := 5) (by walk_at "sto"))
      (fun i ds' => ∃ (ps : List (List Int)) (z : SD), Near i ps ∧ ds' = [.dat (.int n), .dat (wallsD a), .dat (wallsD b), .dat (wallD g), .dat (.list (ps.map wallD)), z, .un, .un]) ⟨[[]], _, ⟨by decide, by simp, by simp⟩, rfl⟩ ?_ (fun ds' h => by
        rw [intsD_length, show ((n : Int) - 1).toNat = n - 1 by omega] at h; exact h)) ?_
  · rintro i d ds' hi ⟨ps, z, hp, rfl⟩
    obtain ⟨hi', rfl⟩ := intsD_get hi
    have hpf : ps.length ≤ 100 := Nat.le_trans hp.few (Nat.le_trans (Nat.pow_le_pow_right (by decide) (show i ≤ 2 by omega)) (by decide))
    exact ⟨_, rfl, run_one (rs_setP (i := 4) (P := (· = .list ((longL ps).map wallD))) (by walk_at "sto") (ev_callD (PA := (· = [.dat (.list (ps.map wallD))])) (Pc := pcLo) ⟨hLo⟩ rfl (ed_dat (by walk_at "var") ed_nil) (fun l hl => ⟨_, ⟨ps, hl, hpf, fun p hp' => by rw [hp.len p hp']; omega, rfl⟩, fun d hd => hd⟩)) (fun d hd => ⟨longL ps, _, hp.long, by subst hd; rfl⟩))⟩
  rintro ds' ⟨ps, z, hp, rfl⟩
  have hpf : ps.length ≤ 100 := Nat.le_trans hp.few (Nat.le_trans (Nat.pow_le_pow_right (by decide) (show n - 1 ≤ 2 by omega)) (by decide))
  refine run_cons (Mid := fun ds' => ∃ z2 z3 : SD, ds' = [.dat (.int n), .dat (wallsD a), .dat (wallsD b), .dat (wallD g), .dat (.list (ps.map wallD)), z, z2, z3])
    (rs_for (items := [.int 1, .int 2, .int 3]) (wk_tup (ev_tup (ea_cons ev_int (ea_cons ev_int (ea_cons ev_int ea_nil))) (hl := by show 3 ≤ 100000; decide))) (tg_name (i := 6) (by walk_at "sto"))
      (fun _ ds' => ∃ z2 z3 : SD, ds' = [.dat (.int n), .dat (wallsD a), .dat (wallsD b), .dat (wallD g), .dat (.list (ps.map wallD)), z, z2, z3]) ⟨_, _, rfl⟩ ?_ (fun ds' h => h)) ?_
  · rintro i d ds' hi ⟨z2, z3, rfl⟩
    obtain ⟨bd, hbd, rfl⟩ : ∃ bd : Int, bd.natAbs ≤ 3 ∧ d = .int bd := by
      match i, hi with
      | 0, hi => cases hi; exact ⟨1, by decide, rfl⟩
      | 1, hi => cases hi; exact ⟨2, by decide, rfl⟩
      | 2, hi => cases hi; exact ⟨3, by decide, rfl⟩
    refine ⟨_, rfl, run_one (rs_for (items := ps.map wallD) (wk_list (by walk_at "var")) (tg_name (i := 7) (by walk_at "sto"))
      (fun _ ds' => ∃ z3 : SD, ds' = [.dat (.int n), .dat (wallsD a), .dat (wallsD b), .dat (wallD g), .dat (.list (ps.map wallD)), z, .dat (.int bd), z3]) ⟨_, rfl⟩ ?_ (fun ds' h => by obtain ⟨z3, rfl⟩ := h; exact ⟨_, _, rfl⟩))⟩
    rintro j d ds' hj ⟨z3, rfl⟩
    obtain ⟨p, hp', rfl⟩ := mem_wall (List.mem_of_getElem? hj)
    have pl : (p ++ [bd]).length = n := by rw [List.length_append, hp.len p hp']; simp; omega
    have ps' : SmRow (p ++ [bd]) := fun x hx => by
      have : x.natAbs ≤ 3 := by
        rcases List.mem_append.mp hx with e | e
        · exact hp.sm p hp' x e
        · simp at e; rw [e]; exact hbd
      exact Nat.lt_of_le_of_lt this (by decide)
    have pt : ∀ {ds : List SD}, True := fun {_} => trivial
    refine ⟨_, rfl, run_one (rs_if (PT := (· = (keepsB n a b (p ++ [bd]) && decide (dotn n g (p ++ [bd]) < 0)))) (et_of (ew_and (x := keepsB n a b (p ++ [bd])) (y := decide (dotn n g (p ++ [bd]) < 0))
      (et_val (ev_callD (PA := (· = [.dat (.int n), .dat (wallsD a), .dat (wallsD b), .dat (wallD (p ++ [bd]))])) (Pc := pcLp) ⟨hLp⟩ rfl (ed_dat (by walk_at "var") (ed_dat (by walk_at "var") (ed_dat (by walk_at "var") (ed_dat (ev_as (ev_catT (l := p.map PyData.int) (m := [.int bd]) (by walk_at "var") (ev_tup (ea_cons (by walk_at "var") ea_nil) (hl := by show 1 ≤ 100000; decide)) (by rw [List.length_map, hp.len p hp']; show _ + 1 ≤ 100000; omega)) (by unfold wallD; rw [List.map_append]; rfl)) ed_nil)))) (fun l hl => ⟨_, ⟨n, a, b, p ++ [bd], hl, by omega, by omega, ha, hb, pl, ps', rfl⟩, fun d hd => hd⟩)))
      (fun _ => ew_and1 (et_lt (i := dotn n g (p ++ [bd])) (j := 0) (ev_callD (PA := (· = [.dat (wallD g), .dat (wallD (p ++ [bd]))])) (Pc := pcVal) ⟨hVal⟩ rfl (ed_dat (by walk_at "var") (ed_dat (ev_as (ev_catT (l := p.map PyData.int) (m := [.int bd]) (by walk_at "var") (ev_tup (ea_cons (by walk_at "var") ea_nil) (hl := by show 1 ≤ 100000; decide)) (by rw [List.length_map, hp.len p hp']; show _ + 1 ≤ 100000; omega)) (by unfold wallD; rw [List.map_append]; rfl)) ed_nil)) (fun l hl => ⟨_, ⟨n, g, p ++ [bd], hl, hg, pl, by omega, sg, ps', rfl⟩, fun d hd => hd⟩)) ev_int))))
      (fun hh => ?_) (fun _ => run_nil ⟨_, rfl⟩))⟩
    have hh2 := hh.symm
    rw [Bool.and_eq_true, decide_eq_true_eq] at hh2
    have := hf _ ((keepsB_iff pl).mp hh2.1)
    exact absurd hh2.2 (by omega)
  rintro ds' ⟨z2, z3, rfl⟩
  exact run_one (rs_ret ev_bl rfl)
end

end K8

set_option Elab.async false
set_option maxRecDepth 100000
set_option exponentiation.threshold 2000
set_option linter.all false
set_option maxHeartbeats 1000000
namespace K8
open PySem L2 Dl
local macro_rules | `(tactic| walk_at "vis") => `(tactic| first | exact Or.inl rfl | exact Or.inr (Or.inl rfl) | exact Or.inr (Or.inr rfl))
local macro_rules | `(tactic| walk_at "sto") => `(tactic| first | exact ⟨rfl, Or.inl rfl, Or.inl rfl⟩ | exact ⟨rfl, Or.inl rfl, Or.inr rfl⟩ | exact ⟨rfl, Or.inr rfl, Or.inl rfl⟩)
local macro_rules | `(tactic| walk_at "var") => `(tactic| first
  | exact ev_var 0 rfl (by walk_at "vis") rfl | exact ev_var 1 rfl (by walk_at "vis") rfl | exact ev_var 2 rfl (by walk_at "vis") rfl | exact ev_var 3 rfl (by walk_at "vis") rfl
  | exact ev_var 4 rfl (by walk_at "vis") rfl | exact ev_var 5 rfl (by walk_at "vis") rfl | exact ev_var 6 rfl (by walk_at "vis") rfl | exact ev_var 7 rfl (by walk_at "vis") rfl
  | exact ev_var 8 rfl (by walk_at "vis") rfl | exact ev_var 9 rfl (by walk_at "vis") rfl | exact ev_var 10 rfl (by walk_at "vis") rfl | exact ev_var 11 rfl (by walk_at "vis") rfl
  | exact ev_var 12 rfl (by walk_at "vis") rfl | exact ev_var 13 rfl (by walk_at "vis") rfl | exact ev_var 14 rfl (by walk_at "vis") rfl | exact ev_var 15 rfl (by walk_at "vis") rfl)

local macro_rules | `(tactic| walk_at "ev") => `(tactic| first
  | exact ev_int | exact ev_bl | exact ev_str | exact ev_non
  | walk_at "var"
  | (refine ev_neg ?_ <;> walk_at "ev")
  | (refine ev_add ?_ ?_ <;> walk_at "ev")
  | (refine ev_sub ?_ ?_ <;> walk_at "ev"))

local macro_rules | `(tactic| walk_at "blk") => `(tactic| (dsimp only; decide +kernel))
/-! the law -/
local macro_rules | `(tactic| walk_at "vx") => `(tactic| first
  | exact ev_var 16 rfl (by walk_at "vis") rfl | exact ev_var 17 rfl (by walk_at "vis") rfl | exact ev_var 18 rfl (by walk_at "vis") rfl)
/-- walls, at most so many, of numbers at most so far from 0 -/
def RowsP (n L B : Nat) : D → Prop := fun d => ∃ ws : List (List Int), d = wallsD ws ∧ ws.length ≤ L ∧ ∀ r ∈ ws, r.length = n ∧ ∀ x ∈ r, x.natAbs ≤ B
theorem tows_rows {n L : Nat} {p : List Int} {le : Int} {l : List D} (h1 : l.length ≤ L) (h2 : ∀ (i : Nat) (y : D), l[i]? = some y → TowP n p le y) : RowsP n L 1000000 (.tuple l) := by
  obtain ⟨ws, rfl, hw⟩ := walls_of (q := fun r => r.length = n ∧ ∀ x ∈ r, x.natAbs ≤ 1000000) (l := l) (fun d hd => by
    obtain ⟨i, hi, e⟩ := List.getElem_of_mem hd
    obtain ⟨r, rfl, g1, g2, _⟩ := h2 i d (by rw [List.getElem?_eq_getElem hi, e])
    exact ⟨r, rfl, g1, g2⟩)
  exact ⟨ws, rfl, by simpa using h1, hw⟩
def SomeP (n L : Nat) : D → Prop := fun d => ∃ gs : List (List Int), d = .list (gs.map wallD) ∧ gs.length ≤ L ∧ ∀ r ∈ gs, r.length = n ∧ ∀ x ∈ r, x.natAbs ≤ 1000000
theorem box_rows {n : Nat} (h : Two n) {kk : Int} (h1 : 1 ≤ kk) (h3 : kk ≤ 3) : (boxL n kk).length ≤ 4 ∧ ∀ r ∈ boxL n kk, r.length = n ∧ ∀ x ∈ r, x.natAbs ≤ 1000000 := by
  rcases h with rfl | rfl
  · refine ⟨by show 2 ≤ 4; decide, fun r hr => ?_⟩
    simp [boxL] at hr
    rcases hr with rfl | rfl <;> refine ⟨rfl, fun x hx => ?_⟩ <;> simp at hx <;> rcases hx with rfl | rfl <;> omega
  · refine ⟨by show 4 ≤ 4; decide, fun r hr => ?_⟩
    simp [boxL] at hr
    rcases hr with rfl | rfl | rfl | rfl <;> refine ⟨rfl, fun x hx => ?_⟩ <;> simp at hx <;> rcases hx with rfl | rfl | rfl <;> omega
theorem filter_fit (ws : List (List Int)) : ((ws.map wallD).filter (fun d => fitsB [rowOf d])).map id = (ws.filter (fun r => fitsB [r])).map wallD := by
  rw [List.map_id, List.filter_map]
  congr 1
  refine List.filter_congr (fun r _ => ?_)
  show fitsB [rowOf (wallD r)] = _
  rw [rowOf_wall]
theorem fits_one {r : List Int} (h : fitsB [r] = true) : ∀ x ∈ r, x.natAbs ≤ 1000000 := by
  unfold fitsB at h
  simpa using h
def kindS (x : Bool) : Str := if x then "weights" else "point"
theorem sw_of {I : Inf} {X : Cx} (F : Fits I X) {tg e : Expr} (h : ∀ env : Env, env.scope = I.sc → swappedStores [tg] e env = pure none) : swappedStores [tg] e X.env = pure none := h X.env F.sc
def touchL (n : Nat) (sl q : List Int) : List Int := sl.map (fun x => x * q.getD (n - 1) 0) ++ [-(dotL sl q)]
def moreL (t : List Int) (j : Int) : List Int := t.dropLast ++ [t.getLastD 0 + j]
section
variable {P : Program} {w : World} {K : Frag} {mg : Str → Option Value} {base : Heap} {k : Nat} {f : Addr} {fd : FuncData}
abbrev sLaw : Stmt := top 54
abbrev nLaw : List Str := ["_law_script", "_law_deck_here", "_law_width", "_law_box_here", "_law_point_here", "_law_more", "_law_stricts", "_law_shuts", "_law_corners_here", "_law_some", "_law_at", "_law_corner", "_law_slope", "_law_touch", "_law_shut", "_law_due", "_law_it", "_law_x", "_law_y"]
theorem scLaw : FnScope nLaw ["_law_script"] (defScope sLaw) := ⟨rfl, rfl, rfl, by decide +kernel, rfl, by decide +kernel, by decide +kernel⟩
theorem ok_rest (m : Mg mg) (hrp : mg "repr" = none) (hDraw : Has P w K mg base k "_law_draw" (spD K pcDraw)) (hPick : Has P w K mg base k "_law_pick" (spD K pcPick)) (hItem : Has P w K mg base k "_law_item" (spD K pcItem)) (hBox : Has P w K mg base k "_law_box" (spD K pcBox)) (hPt : Has P w K mg base k "_law_point" (spD K pcPt))
    (hBord : Has P w K mg base k "_law_border" (spD K pcBord)) (hBords : Has P w K mg base k "_law_borders" (spD K pcBords)) (hTo : Has P w K mg base k "_law_toward" (spD K pcTo)) (hCor : Has P w K mg base k "_law_corners" (spD K pcCor)) (hFi : Has P w K mg base k "_law_fits" (spD K pcFi)) (hBr : Has P w K mg base k "_law_is_broken" (spD K pcBr))
    (hKn : Has P w K mg base k "_law_is_kept_nearby" (spD K pcKn)) (hDf : Has P w K mg base k "does_follow" (spD K pcDf)) (hJf : Has P w K mg base k "judge_follows" (spD K pcJf)) (c : Ct) (z0 : SD) :
    Run ⟨P, w, K, mg, base, nLaw, defScope sLaw, k, fun _ => true, true⟩ c ((defBody sLaw).drop 1) [z0, .deck, .un, .un, .un, .un, .un, .un, .un, .un, .un, .un, .un, .un, .un, .un, .un, .un, .un] { nx := fun _ => False, rt := (· = .bool true) } := by
  refine run_cons (Mid := fun ds' => ∃ n : Nat, Two n ∧ ds' = [z0, .deck, .dat (.int n), .un, .un, .un, .un, .un, .un, .un, .un, .un, .un, .un, .un, .un, .un, .un, .un])
    (rs_setP (i := 2) (P := fun d => ∃ n : Nat, Two n ∧ d = .int n) (by walk_at "sto") (ev_callD (PA := (· = [.deck, .dat (.list [.int 3, .int 2, .int 3])])) (Pc := pcPick) ⟨hPick⟩ rfl (ed_deck 1 rfl (by walk_at "vis") rfl (ed_dat (ev_lst (ea_cons ev_int (ea_cons ev_int (ea_cons ev_int ea_nil))) (hl := by show 3 ≤ 100000; decide)) ed_nil)) (fun l hl => ⟨_, ⟨_, hl, by decide, by show 3 ≤ 100000; decide, rfl⟩, fun d hd => by
        simp only [List.mem_cons, List.not_mem_nil, or_false] at hd
        rcases hd with h | h | h
        · exact ⟨3, .inr rfl, h⟩
        · exact ⟨2, .inl rfl, h⟩
        · exact ⟨3, .inr rfl, h⟩⟩))
      (fun d hd => by obtain ⟨n, hn, rfl⟩ := hd; exact ⟨n, hn, rfl⟩)) ?_
  rintro ds' ⟨n, hT, rfl⟩
  have hn : 2 ≤ n ∧ n ≤ 3 := by rcases hT with rfl | rfl <;> omega
  have h2 := hn.1
  refine run_cons (Mid := fun ds' => ∃ (kk : Int) (p : List Int), 1 ≤ kk ∧ kk ≤ 3 ∧ p.length = n ∧ (∀ x ∈ p, x.natAbs ≤ 6) ∧ 1 ≤ p.getD (n - 1) 0 ∧ ds' = [z0, .deck, .dat (.int n), .dat (wallsD (boxL n kk)), .dat (wallD p), .un, .un, .un, .un, .un, .un, .un, .un, .un, .un, .un, .un, .un, .un])
    (rs_tup (P := fun d => ∃ (kk : Int) (p : List Int), d = .tuple [wallsD (boxL n kk), wallD p] ∧ 1 ≤ kk ∧ kk ≤ 3 ∧ p.length = n ∧ (∀ x ∈ p, x.natAbs ≤ 6) ∧ 1 ≤ p.getD (n - 1) 0) (tg_two (i := 3) (j := 4) (by walk_at "sto") (by walk_at "sto"))
      (ev_tupP (R := fun l => ∃ (kk : Int) (p : List Int), l = [wallsD (boxL n kk), wallD p] ∧ 1 ≤ kk ∧ kk ≤ 3 ∧ p.length = n ∧ (∀ x ∈ p, x.natAbs ≤ 6) ∧ 1 ≤ p.getD (n - 1) 0)
        (ea_consP (P := fun d => ∃ kk : Int, 1 ≤ kk ∧ kk ≤ 3 ∧ d = wallsD (boxL n kk)) (R := fun l => ∃ p : List Int, l = [wallD p] ∧ p.length = n ∧ (∀ x ∈ p, x.natAbs ≤ 6) ∧ 1 ≤ p.getD (n - 1) 0)
          (ev_callD (PA := fun l => ∃ kk : Int, 1 ≤ kk ∧ kk ≤ 3 ∧ l = [.dat (.int n), .dat (.int kk)]) (Pc := pcBox) ⟨hBox⟩ rfl
            (ed_datP (P := (· = .int n)) (R := fun l => ∃ kk : Int, 1 ≤ kk ∧ kk ≤ 3 ∧ l = [.dat (.int kk)]) (by walk_at "var")
              (ed_datP (P := IsI (fun i => 1 ≤ i ∧ i ≤ 3)) (R := (· = [])) (ev_addP (p := (· = 1)) (q := fun i => 0 ≤ i ∧ i < 3) (ev_int.imp isI) (ev_draw ⟨hDraw⟩ rfl (i := 1) (q := (· = 3)) rfl (by walk_at "vis") rfl (ev_int.imp isI) (fun m hm => by omega) (fun m j hm h0 hj => by subst hm; exact ⟨h0, hj⟩)) (fun i j hi hj => by subst hi; omega)) ed_nil
                (fun d l hd hl => by obtain ⟨i, rfl, g1, g2⟩ := hd; subst hl; exact ⟨i, g1, g2, rfl⟩))
              (fun d l hd hl => by subst hd; obtain ⟨i, g1, g2, rfl⟩ := hl; exact ⟨i, g1, g2, rfl⟩))
            (fun l hl => by obtain ⟨kk, g1, g2, rfl⟩ := hl; exact ⟨_, ⟨n, kk, rfl, hT, rfl⟩, fun d hd => ⟨kk, g1, g2, hd⟩⟩))
          (ea_consP (P := PointP n) (R := (· = [])) (ev_callD (PA := (· = [.deck, .dat (.int n)])) (Pc := pcPt) ⟨hPt⟩ rfl (ed_deck 1 rfl (by walk_at "vis") rfl (ed_dat (by walk_at "var") ed_nil)) (fun l hl => ⟨_, ⟨n, hl, h2, by omega, rfl⟩, fun d hd => hd⟩)) ea_nil
            (fun d l hd hl => by obtain ⟨p, rfl, g1, g2, g3⟩ := hd; subst hl; exact ⟨p, rfl, g1, g2, g3⟩))
          (fun d l hd hl => by obtain ⟨kk, g1, g2, rfl⟩ := hd; obtain ⟨p, rfl, g3, g4, g5⟩ := hl; exact ⟨kk, p, rfl, g1, g2, g3, g4, g5⟩))
        (fun l hl => by obtain ⟨_, _, rfl, _⟩ := hl; show 2 ≤ 100000; decide) (fun l hl => by obtain ⟨kk, p, rfl, g⟩ := hl; exact ⟨kk, p, rfl, g⟩))
      (fun d hd => by obtain ⟨kk, p, rfl, g1, g2, g3, g4, g5⟩ := hd; exact ⟨_, ⟨_, _, rfl, rfl⟩, kk, p, g1, g2, g3, g4, g5, rfl⟩)
      (hw := fun X F => sw_of F (by intro env h; cases env; dsimp only at h; subst h; rfl))) ?_
  rintro ds' ⟨kk, p, k1, k3, pl, ps, pb, rfl⟩
  refine run_cons (Mid := fun ds' => ∃ a b : List (List Int), a.length ≤ 5 ∧ (∀ r ∈ a, r.length = n ∧ ∀ x ∈ r, x.natAbs ≤ 999999) ∧ b.length ≤ 2 ∧ (∀ r ∈ b, r.length = n ∧ ∀ x ∈ r, x.natAbs ≤ 999999) ∧ ds' = [z0, .deck, .dat (.int n), .dat (wallsD (boxL n kk)), .dat (wallD p), .dat (wallsD a), .dat (wallsD b), .un, .un, .un, .un, .un, .un, .un, .un, .un, .un, .un, .un])
    (rs_par (i := 5) (j := 6) (PA := RowsP n 5 999999) (PB := RowsP n 2 999999) rfl rfl (by decide) rfl rfl
      (ev_callD (PA := fun l => ∃ mm : Nat, mm ≤ 5 ∧ l = [.deck, .dat (.int n), .dat (.int mm)]) (P := RowsP n 5 999999) (Pc := pcBords) ⟨hBords⟩ rfl
        (ed_deckP (R := fun l => ∃ mm : Nat, mm ≤ 5 ∧ l = [.dat (.int n), .dat (.int mm)]) 1 rfl (by walk_at "vis") rfl
          (ed_datP (P := (· = .int n)) (R := fun l => ∃ mm : Nat, mm ≤ 5 ∧ l = [.dat (.int mm)]) (by walk_at "var")
            (ed_datP (P := IsI (fun i => 0 ≤ i ∧ i < 6)) (R := (· = [])) (ev_draw ⟨hDraw⟩ rfl (i := 1) (q := (· = 6)) rfl (by walk_at "vis") rfl (ev_int.imp isI) (fun m hm => by omega) (fun m j hm h0 hj => by subst hm; exact ⟨h0, hj⟩)) ed_nil
              (fun d l hd hl => by obtain ⟨i, rfl, g1, g2⟩ := hd; subst hl; exact ⟨i.toNat, by omega, by rw [Int.toNat_of_nonneg g1]⟩))
            (fun d l hd hl => by subst hd; obtain ⟨mm, g, rfl⟩ := hl; exact ⟨mm, g, rfl⟩))
          (fun l hl => by obtain ⟨mm, g, rfl⟩ := hl; exact ⟨mm, g, rfl⟩))
        (fun l hl => by obtain ⟨mm, g, rfl⟩ := hl; exact ⟨_, ⟨n, mm, rfl, h2, by omega, by omega, rfl⟩, fun d hd => by obtain ⟨ws, rfl, q1, q2⟩ := hd; exact ⟨ws, rfl, by omega, q2⟩⟩))
      (ev_callD (PA := fun l => ∃ mm : Nat, mm ≤ 2 ∧ l = [.deck, .dat (.int n), .dat (.int mm)]) (P := RowsP n 2 999999) (Pc := pcBords) ⟨hBords⟩ rfl
        (ed_deckP (R := fun l => ∃ mm : Nat, mm ≤ 2 ∧ l = [.dat (.int n), .dat (.int mm)]) 1 rfl (by walk_at "vis") rfl
          (ed_datP (P := (· = .int n)) (R := fun l => ∃ mm : Nat, mm ≤ 2 ∧ l = [.dat (.int mm)]) (by walk_at "var")
            (ed_datP (P := IsI (fun i => 0 ≤ i ∧ i < 3)) (R := (· = [])) (ev_draw ⟨hDraw⟩ rfl (i := 1) (q := (· = 3)) rfl (by walk_at "vis") rfl (ev_int.imp isI) (fun m hm => by omega) (fun m j hm h0 hj => by subst hm; exact ⟨h0, hj⟩)) ed_nil
              (fun d l hd hl => by obtain ⟨i, rfl, g1, g2⟩ := hd; subst hl; exact ⟨i.toNat, by omega, by rw [Int.toNat_of_nonneg g1]⟩))
            (fun d l hd hl => by subst hd; obtain ⟨mm, g, rfl⟩ := hl; exact ⟨mm, g, rfl⟩))
          (fun l hl => by obtain ⟨mm, g, rfl⟩ := hl; exact ⟨mm, g, rfl⟩))
        (fun l hl => by obtain ⟨mm, g, rfl⟩ := hl; exact ⟨_, ⟨n, mm, rfl, h2, by omega, by omega, rfl⟩, fun d hd => by obtain ⟨ws, rfl, q1, q2⟩ := hd; exact ⟨ws, rfl, by omega, q2⟩⟩))
      (fun d e hd he => by obtain ⟨a, rfl, q1, q2⟩ := hd; obtain ⟨b, rfl, q3, q4⟩ := he; exact ⟨a, b, q1, q2, q3, q4, rfl⟩)) ?_
  rintro ds' ⟨a, b, al, aok, bl, bok, rfl⟩
  refine run_cons (Mid := fun ds' => ∃ a b : List (List Int), a.length ≤ 5 ∧ (∀ r ∈ a, r.length = n ∧ ∀ x ∈ r, x.natAbs ≤ 1000000) ∧ b.length ≤ 2 ∧ (∀ r ∈ b, r.length = n ∧ ∀ x ∈ r, x.natAbs ≤ 1000000) ∧ ds' = [z0, .deck, .dat (.int n), .dat (wallsD (boxL n kk)), .dat (wallD p), .dat (wallsD a), .dat (wallsD b), .un, .un, .un, .un, .un, .un, .un, .un, .un, .un, .un, .un])
    (rs_if (PT := fun _ => True) (et_gtP (p := fun _ => True) (q := fun _ => True) (ev_draw ⟨hDraw⟩ rfl (i := 1) (q := (· = 3)) rfl (by walk_at "vis") rfl (ev_int.imp isI) (fun m hm => by omega) (fun _ _ _ _ _ => trivial)) (ev_int.imp (fun d hd => ⟨_, hd, trivial⟩)) (fun _ _ _ _ => trivial))
      (fun _ => run_one (rs_par (i := 5) (j := 6) (PA := RowsP n 5 1000000) (PB := RowsP n 2 1000000) rfl rfl (by decide) rfl rfl
      (ev_tupleP (PA := fun d => ∃ l, d = .list l ∧ RowsP n 5 1000000 (.tuple l)) rfl m.tuple (ev_fresh (ef_mapP [("_law_it", 16)] (PL := (· = a.map wallD)) (fun _ => TowP n p 0) (by walk_at "blk") (wk_tup (by walk_at "var")) (tg_name (i := 16) (by walk_at "sto"))
        (fun items h => by rw [h, List.length_map]; show _ ≤ 100000; omega) (fun items h d hd => by
          subst h
          obtain ⟨r, hr, rfl⟩ := mem_wall hd
          exact ⟨_, rfl, by simp, ev_callD (PA := (· = [.dat (wallD r), .dat (wallD p), .dat (.int 0)])) (Pc := pcTo) ⟨hTo⟩ rfl (ed_dat (by walk_at "vx") (ed_dat (by walk_at "var") (ed_dat ev_int ed_nil))) (fun l hl' => ⟨_, ⟨n, r, p, 0, hl', by omega, by omega, (aok r hr).1, (aok r hr).2, pl, ps, pb, by decide, rfl⟩, fun d hd => hd⟩)⟩))
      (fun l hl => by obtain ⟨items, rfl, g2, g3⟩ := hl; exact ⟨l, rfl, tows_rows (by rw [g2, List.length_map]; omega) (fun i y hy => by obtain ⟨_, _, hr⟩ := g3 i y hy; exact hr)⟩)) (fun x hx => by obtain ⟨l, rfl, hw⟩ := hx; exact ⟨l, .inl rfl, hw⟩))
      (ev_tupleP (PA := fun d => ∃ l, d = .list l ∧ RowsP n 2 1000000 (.tuple l)) rfl m.tuple (ev_fresh (ef_mapP [("_law_it", 16)] (PL := (· = b.map wallD)) (fun _ => TowP n p 1) (by walk_at "blk") (wk_tup (by walk_at "var")) (tg_name (i := 16) (by walk_at "sto"))
        (fun items h => by rw [h, List.length_map]; show _ ≤ 100000; omega) (fun items h d hd => by
          subst h
          obtain ⟨r, hr, rfl⟩ := mem_wall hd
          exact ⟨_, rfl, by simp, ev_callD (PA := (· = [.dat (wallD r), .dat (wallD p), .dat (.int 1)])) (Pc := pcTo) ⟨hTo⟩ rfl (ed_dat (by walk_at "vx") (ed_dat (by walk_at "var") (ed_dat ev_int ed_nil))) (fun l hl' => ⟨_, ⟨n, r, p, 1, hl', by omega, by omega, (bok r hr).1, (bok r hr).2, pl, ps, pb, by decide, rfl⟩, fun d hd => hd⟩)⟩))
      (fun l hl => by obtain ⟨items, rfl, g2, g3⟩ := hl; exact ⟨l, rfl, tows_rows (by rw [g2, List.length_map]; omega) (fun i y hy => by obtain ⟨_, _, hr⟩ := g3 i y hy; exact hr)⟩)) (fun x hx => by obtain ⟨l, rfl, hw⟩ := hx; exact ⟨l, .inl rfl, hw⟩))
      (fun d e hd he => by obtain ⟨a, rfl, q1, q2⟩ := hd; obtain ⟨b, rfl, q3, q4⟩ := he; exact ⟨a, b, q1, q2, q3, q4, rfl⟩)))
      (fun _ => run_nil ⟨a, b, al, fun r hr => ⟨(aok r hr).1, fun x hx => Nat.le_trans ((aok r hr).2 x hx) (by decide)⟩, bl, fun r hr => ⟨(bok r hr).1, fun x hx => Nat.le_trans ((bok r hr).2 x hx) (by decide)⟩, rfl⟩)) ?_
  clear al aok bl bok a b
  rintro ds' ⟨a, b, al, aok, bl, bok, rfl⟩
  obtain ⟨xl, xok⟩ := box_rows hT k1 k3
  have shl : (boxL n kk ++ a).length ≤ 9 := by rw [List.length_append]; omega
  have shok : ∀ r ∈ boxL n kk ++ a, r.length = n ∧ ∀ x ∈ r, x.natAbs ≤ 1000000 := fun r hr => (List.mem_append.mp hr).elim (xok r) (aok r)
  have hW : WsOk n (boxL n kk ++ a) := ⟨by omega, fun r hr => (shok r hr).1, fun r hr x hx => Nat.le_trans ((shok r hr).2 x hx) (by decide)⟩
  refine run_to (ds1 := [z0, .deck, .dat (.int n), .dat (wallsD (boxL n kk)), .dat (wallD p), .dat (wallsD a), .dat (wallsD b), .dat (wallsD (boxL n kk ++ a)), .un, .un, .un, .un, .un, .un, .un, .un, .un, .un, .un]) (rs_setP (i := 7) (P := (· = wallsD (boxL n kk ++ a))) (by walk_at "sto") (ev_as (ev_catT (l := (boxL n kk).map wallD) (m := a.map wallD) (by walk_at "var") (by walk_at "var") (by rw [List.length_map, List.length_map]; show _ ≤ 100000; omega)) (by unfold wallsD; rw [List.map_append])) (fun d hd => by subst hd; rfl)) ?_
  refine run_to (ds1 := [z0, .deck, .dat (.int n), .dat (wallsD (boxL n kk)), .dat (wallD p), .dat (wallsD a), .dat (wallsD b), .dat (wallsD (boxL n kk ++ a)), .dat (cornD n (boxL n kk ++ a)), .un, .un, .un, .un, .un, .un, .un, .un, .un, .un]) (rs_setP (i := 8) (P := (· = cornD n (boxL n kk ++ a))) (by walk_at "sto") (ev_callD (PA := (· = [.dat (wallsD (boxL n kk ++ a))])) (Pc := pcCor) ⟨hCor⟩ rfl (ed_dat (by walk_at "var") ed_nil) (fun l hl => ⟨_, ⟨n, _, hl, hT, hW, rfl⟩, fun d hd => hd⟩)) (fun d hd => by subst hd; rfl)) ?_
  have bord : ∀ {ds : List SD} {pp pn : Pos} {e1 e2 : Expr}, True := fun {_ _ _ _ _} => trivial
  refine run_cons (Mid := fun ds' => ∃ gs : List (List Int), gs.length ≤ 2 ∧ (∀ r ∈ gs, r.length = n ∧ ∀ x ∈ r, x.natAbs ≤ 1000000) ∧ ds' = [z0, .deck, .dat (.int n), .dat (wallsD (boxL n kk)), .dat (wallD p), .dat (wallsD a), .dat (wallsD b), .dat (wallsD (boxL n kk ++ a)), .dat (cornD n (boxL n kk ++ a)), .dat (.list (gs.map wallD)), .un, .un, .un, .un, .un, .un, .un, .un, .un])
    (rs_setP (i := 9) (P := SomeP n 2) (by walk_at "sto") (ev_lstP (R := fun l => ∃ r s : List Int, l = [wallD r, wallD s] ∧ (r.length = n ∧ ∀ x ∈ r, x.natAbs ≤ 1000000) ∧ (s.length = n ∧ ∀ x ∈ s, x.natAbs ≤ 1000000))
      (ea_consP (P := WallP n 999999) (R := fun l => ∃ s : List Int, l = [wallD s] ∧ (s.length = n ∧ ∀ x ∈ s, x.natAbs ≤ 1000000))
        (ev_callD (PA := (· = [.deck, .dat (.int n)])) (Pc := pcBord) ⟨hBord⟩ rfl (ed_deck 1 rfl (by walk_at "vis") rfl (ed_dat (by walk_at "var") ed_nil)) (fun l hl => ⟨_, ⟨n, hl, h2, by omega, rfl⟩, fun d hd => hd⟩))
        (ea_consP (P := TowP n p 0) (R := (· = [])) (ev_callD (PA := fun l => ∃ r : List Int, r.length = n ∧ (∀ x ∈ r, x.natAbs ≤ 999999) ∧ l = [.dat (wallD r), .dat (wallD p), .dat (.int 0)]) (Pc := pcTo) ⟨hTo⟩ rfl
            (ed_datP (P := WallP n 999999) (R := (· = [.dat (wallD p), .dat (.int 0)])) (ev_callD (PA := (· = [.deck, .dat (.int n)])) (Pc := pcBord) ⟨hBord⟩ rfl (ed_deck 1 rfl (by walk_at "vis") rfl (ed_dat (by walk_at "var") ed_nil)) (fun l hl => ⟨_, ⟨n, hl, h2, by omega, rfl⟩, fun d hd => hd⟩)) (ed_dat (by walk_at "var") (ed_dat ev_int ed_nil))
              (fun d l hd hl' => by obtain ⟨r, rfl, g1, g2⟩ := hd; subst hl'; exact ⟨r, g1, g2, rfl⟩))
            (fun l hl' => by obtain ⟨r, g1, g2, rfl⟩ := hl'; exact ⟨_, ⟨n, r, p, 0, rfl, by omega, by omega, g1, g2, pl, ps, pb, by decide, rfl⟩, fun d hd => hd⟩)) ea_nil
          (fun d l hd hl => by obtain ⟨s, rfl, g1, g2, _⟩ := hd; subst hl; exact ⟨s, rfl, g1, g2⟩))
        (fun d l hd hl => by obtain ⟨r, rfl, g1, g2⟩ := hd; obtain ⟨s, rfl, g3⟩ := hl; exact ⟨r, s, rfl, ⟨g1, fun x hx => Nat.le_trans (g2 x hx) (by decide)⟩, g3⟩))
      (fun l hl => by obtain ⟨_, _, rfl, _⟩ := hl; show 2 ≤ 100000; decide) (fun l hl => by
        obtain ⟨r, s, rfl, g1, g2⟩ := hl
        exact ⟨[r, s], rfl, Nat.le_refl 2, fun t ht => by
          simp at ht
          rcases ht with rfl | rfl
          · exact g1
          · exact g2⟩))
      (fun d hd => by obtain ⟨gs, rfl, g1, g2⟩ := hd; exact ⟨gs, g1, g2, rfl⟩)) ?_
  rintro ds' ⟨gs, gl, gok, rfl⟩
  refine run_cons (Mid := fun ds' => ∃ (gs : List (List Int)) (z10 z11 z12 z13 z14 z15 : SD), gs.length ≤ 5 ∧ (∀ r ∈ gs, r.length = n ∧ ∀ x ∈ r, x.natAbs ≤ 1000000) ∧ ds' = [z0, .deck, .dat (.int n), .dat (wallsD (boxL n kk)), .dat (wallD p), .dat (wallsD a), .dat (wallsD b), .dat (wallsD (boxL n kk ++ a)), .dat (cornD n (boxL n kk ++ a)), .dat (.list (gs.map wallD)), z10, z11, z12, z13, z14, z15, .un, .un, .un])
    (rs_if (PT := (· = !decide ((cornersL n (boxL n kk ++ a)).map wallD = []))) (et_as (et_ne (d := cornD n (boxL n kk ++ a)) (e := .list []) (by walk_at "var") (ev_lst ea_nil (hl := by show 0 ≤ 100000; decide)) (shaped_wallsL _) (by decide +kernel)) (by unfold cornD; rw [eqv_nilD]))
      (fun hh => ?_) (fun _ => run_nil ⟨gs, _, _, _, _, _, _, by omega, gok, rfl⟩)) ?_
  · have hne : (cornersL n (boxL n kk ++ a)).map wallD ≠ [] := by
      intro e; rw [decide_eq_true e] at hh; cases hh
    have hfew := corners_few (n := n) hW.few
    have cl1 : 1 ≤ ((cornersL n (boxL n kk ++ a)).map wallD).length := by
      rcases Nat.eq_zero_or_pos ((cornersL n (boxL n kk ++ a)).map wallD).length with e | e
      · exact absurd (List.eq_nil_of_length_eq_zero e) hne
      · exact e
    refine run_cons (Mid := fun ds' => ∃ q sl : List Int, q ∈ cornersL n (boxL n kk ++ a) ∧ sl.length = n - 1 ∧ (∀ x ∈ sl, x.natAbs ≤ 3) ∧ ds' = [z0, .deck, .dat (.int n), .dat (wallsD (boxL n kk)), .dat (wallD p), .dat (wallsD a), .dat (wallsD b), .dat (wallsD (boxL n kk ++ a)), .dat (cornD n (boxL n kk ++ a)), .dat (.list (gs.map wallD)), .un, .dat (wallD q), .dat (rowD sl), .un, .un, .un, .un, .un, .un])
      (rs_tup (P := fun d => ∃ q sl : List Int, d = .tuple [wallD q, rowD sl] ∧ q ∈ cornersL n (boxL n kk ++ a) ∧ sl.length = n - 1 ∧ (∀ x ∈ sl, x.natAbs ≤ 3)) (tg_two (i := 11) (j := 12) (by walk_at "sto") (by walk_at "sto"))
        (ev_tupP (R := fun l => ∃ q sl : List Int, l = [wallD q, rowD sl] ∧ q ∈ cornersL n (boxL n kk ++ a) ∧ sl.length = n - 1 ∧ (∀ x ∈ sl, x.natAbs ≤ 3))
          (ea_consP (P := fun d => ∃ q, d = wallD q ∧ q ∈ cornersL n (boxL n kk ++ a)) (R := fun l => ∃ sl : List Int, l = [rowD sl] ∧ sl.length = n - 1 ∧ (∀ x ∈ sl, x.natAbs ≤ 3))
            (ev_callD (PA := (· = [.deck, .dat (cornD n (boxL n kk ++ a))])) (Pc := pcPick) ⟨hPick⟩ rfl (ed_deck 1 rfl (by walk_at "vis") rfl (ed_dat (by walk_at "var") ed_nil)) (fun l hl => ⟨_, ⟨_, hl, cl1, by rw [List.length_map]; show _ ≤ 100000; omega, rfl⟩, fun d hd => by obtain ⟨q, hq, rfl⟩ := mem_wall hd; exact ⟨q, rfl, hq⟩⟩))
            (ea_consP (P := fun d => ∃ sl : List Int, d = rowD sl ∧ sl.length = n - 1 ∧ (∀ x ∈ sl, x.natAbs ≤ 3)) (R := (· = []))
              (ev_fresh (ef_mapP [("_law_at", 10)] (PL := (· = intsD 0 (n - 1))) (fun _ => IsI (fun i => i.natAbs ≤ 3)) (by walk_at "blk") (wk_is (wk_range1 (n := (n : Int) - 1) rfl m.range (ev_sub (by walk_at "var") ev_int) (by omega) (by omega)) (by rw [show ((n : Int) - 1).toNat = n - 1 by omega])) (tg_name (i := 10) (by walk_at "sto")) (fun items h => by rw [h, intsD_length]; show _ ≤ 100000; omega)
                (fun items h d hd => ⟨_, rfl, by simp, ev_callD (PA := (· = [.deck, .dat (.int (3 : Nat))])) (Pc := pcItem) ⟨hItem⟩ rfl (ed_deck 1 rfl (by walk_at "vis") rfl (ed_dat ev_int ed_nil)) (fun l hl => ⟨_, ⟨3, hl, by decide, rfl⟩, fun d hd => hd⟩)⟩))
                (fun l hl => by
                  obtain ⟨items, rfl, g1, g2⟩ := hl
                  obtain ⟨r, rfl, hr⟩ := ints_of (q := fun i => i.natAbs ≤ 3) (l := l) (fun d hd => by
                    obtain ⟨i, hi, e⟩ := List.getElem_of_mem hd
                    obtain ⟨_, _, hr⟩ := g2 i d (by rw [List.getElem?_eq_getElem hi, e])
                    exact hr)
                  exact ⟨r, rfl, by rw [List.length_map, intsD_length] at g1; exact g1, hr⟩))
              ea_nil (fun d l hd hl => by obtain ⟨sl, rfl, g⟩ := hd; subst hl; exact ⟨sl, rfl, g⟩))
            (fun d l hd hl => by obtain ⟨q, rfl, hq⟩ := hd; obtain ⟨sl, rfl, g⟩ := hl; exact ⟨q, sl, rfl, hq, g⟩))
          (fun l hl => by obtain ⟨_, _, rfl, _⟩ := hl; show 2 ≤ 100000; decide) (fun l hl => by obtain ⟨q, sl, rfl, g⟩ := hl; exact ⟨q, sl, rfl, g⟩))
        (fun d hd => by obtain ⟨q, sl, rfl, g1, g2, g3⟩ := hd; exact ⟨_, ⟨_, _, rfl, rfl⟩, q, sl, g1, g2, g3, rfl⟩)
        (hw := fun X F => sw_of F (by intro env h; cases env; dsimp only at h; subst h; rfl))) ?_
    rintro ds' ⟨q, sl, hq, sll, slok, rfl⟩
    obtain ⟨ql, qb, _, qs⟩ := corner_of hT hW hq
    have sq : SmRow q := fun x hx => sm_42 (qs x hx)
    have ss : SmRow sl := fun x hx => Nat.lt_of_le_of_lt (slok x hx) (by decide)
    have tl : (touchL n sl q).length = n := by unfold touchL; rw [List.length_append, List.length_map, sll]; simp; omega
    refine run_to (ds1 := [z0, .deck, .dat (.int n), .dat (wallsD (boxL n kk)), .dat (wallD p), .dat (wallsD a), .dat (wallsD b), .dat (wallsD (boxL n kk ++ a)), .dat (cornD n (boxL n kk ++ a)), .dat (.list (gs.map wallD)), .un, .dat (wallD q), .dat (rowD sl), .dat (wallD (touchL n sl q)), .un, .un, .un, .un, .un])
      (rs_setP (i := 13) (P := (· = wallD (touchL n sl q))) (by walk_at "sto") (ev_as (ev_catT (l := (sl.map (fun x => x * q.getD (n - 1) 0)).map PyData.int) (m := [.int (-(dotL sl q))])
        (ev_tupleP (PA := (· = rowD (sl.map (fun x => x * q.getD (n - 1) 0)))) rfl m.tuple ((ev_lc (ef_map [("_law_x", 17)] (items := sl.map PyData.int) (intF (fun x => x * q.getD (n - 1) 0)) (by walk_at "blk") (wk_list (by walk_at "var")) (tg_name (i := 17) (by walk_at "sto")) (by rw [List.length_map]; show _ ≤ 100000; omega) ?_)).is (by rw [map_intF]; rfl))
          (fun x hx => ⟨_, .inl hx, rfl⟩))
        (ev_tup (ea_cons (ev_neg (i := dotL sl q) (ev_as (ev_sum (ns := (sl.zip q).map (fun z => z.1 * z.2)) rfl m.sum ((ev_lc (ef_map [("_law_x", 17), ("_law_y", 18)] (items := zipL (sl.map PyData.int) (q.map PyData.int)) (pairF (fun a b => a * b)) (by walk_at "blk") (wk_zipQ false rfl m.zip (by walk_at "var") (by walk_at "var")) (tg_two (i := 17) (j := 18) (by walk_at "sto") (by walk_at "sto")) ?_ ?_)).is ?_)) rfl)) ea_nil) (hl := by show 1 ≤ 100000; decide))
        (by simp [sll]; show _ ≤ 100000; omega)) (by unfold wallD touchL; rw [List.map_append]; rfl)) (fun d hd => by subst hd; rfl)) ?_
    · intro d hd
      obtain ⟨x, hx, rfl⟩ := mem_int hd
      exact ⟨_, rfl, by simp, ev_mul (i := x) (j := q.getD (n - 1) 0) (by walk_at "vx") (ev_ixT (l := q.map PyData.int) (by walk_at "var") (ev_neg ev_int) (last_at (by omega) ql)) (Sm.mul (ss x hx) (SmRow.at sq _))⟩
    · rw [zip_ints, List.length_map, List.length_zip]; show _ ≤ 100000; omega
    · intro d hd
      rw [zip_ints] at hd
      obtain ⟨z, hz', rfl⟩ := List.mem_map.mp hd
      have m1 := (List.of_mem_zip hz').1
      have m2 := (List.of_mem_zip hz').2
      exact ⟨[(17, .int z.1), (18, .int z.2)], ⟨_, _, rfl, rfl⟩, by simp, ev_mul (i := z.1) (j := z.2) (by walk_at "vx") (by walk_at "vx") (Sm.mul (ss _ m1) (sq _ m2))⟩
    · rw [zip_ints, List.map_map, List.map_map]; rfl
    generalize touchL n sl q = t at *
    have tne : t ≠ [] := fun e => by subst e; simp at tl; omega
    have tD : t.getLastD 0 = t.getD (n - 1) 0 := by
      obtain ⟨u, v, rfl⟩ : ∃ u v, t = u ++ [v] := ⟨t.dropLast, t.getLast tne, (List.dropLast_concat_getLast tne).symm⟩
      have : u.length = n - 1 := by rw [List.length_append] at tl; simp at tl; omega
      rw [getD_append_r _ _ _ (by omega), this, Nat.sub_self]; simp
    have tinit : cutD (t.map PyData.int) none (some (-1)) = t.dropLast.map PyData.int := init_wall (by omega) tl
    have mol : ∀ j, (moreL t j).length = n := fun j => by unfold moreL; rw [List.length_append, List.length_dropLast, tl]; simp; omega
    refine run_one (rs_setP (i := 9) (P := (· = .list ((gs ++ [t, moreL t (-1), moreL t 1].filter (fun r => fitsB [r])).map wallD))) (by walk_at "sto")
      (ev_as (ev_catL (l := gs.map wallD) (m := (([t, moreL t (-1), moreL t 1].map wallD).filter (fun d => fitsB [rowOf d])).map id) (by walk_at "var")
        (ev_lc (ef_filter [("_law_it", 16)] (items := [t, moreL t (-1), moreL t 1].map wallD) (fun d => fitsB [rowOf d]) id (by walk_at "blk")
          (wk_tup (ev_as (ev_tup (ea_cons (by walk_at "var") (ea_cons (ev_as (ev_catT (l := t.dropLast.map PyData.int) (m := [.int (t.getLastD 0 - 1)]) (ev_as (ev_slT (l := t.map PyData.int) (by walk_at "var") eo_none (eo_some (ev_neg ev_int))) (by rw [tinit])) (ev_tup (ea_cons (ev_sub (ev_ixT (l := t.map PyData.int) (by walk_at "var") (ev_neg ev_int) (by rw [tD]; exact last_at (by omega) tl)) ev_int) ea_nil) (hl := by show 1 ≤ 100000; decide)) (by simp; show _ ≤ 100000; omega)) (y := wallD (moreL t (-1))) (by unfold wallD moreL; rw [List.map_append]; rfl))
            (ea_cons (ev_as (ev_catT (l := t.dropLast.map PyData.int) (m := [.int (t.getLastD 0 + 1)]) (ev_as (ev_slT (l := t.map PyData.int) (by walk_at "var") eo_none (eo_some (ev_neg ev_int))) (by rw [tinit])) (ev_tup (ea_cons (ev_add (ev_ixT (l := t.map PyData.int) (by walk_at "var") (ev_neg ev_int) (by rw [tD]; exact last_at (by omega) tl)) ev_int) ea_nil) (hl := by show 1 ≤ 100000; decide)) (by simp; show _ ≤ 100000; omega)) (y := wallD (moreL t 1)) (by unfold wallD moreL; rw [List.map_append]; rfl)) ea_nil))) (hl := by show 3 ≤ 100000; decide)) rfl))
          (tg_name (i := 16) (by walk_at "sto")) (by show 3 ≤ 100000; decide) ?_))
        (by rw [List.map_id]; have := List.length_filter_le (fun d => fitsB [rowOf d]) ([t, moreL t (-1), moreL t 1].map wallD); rw [List.length_map] at this ⊢; simp only [List.length_cons, List.length_nil] at this; show _ ≤ 100000; omega)) (by rw [filter_fit, List.map_append]))
      (fun d hd => ⟨gs ++ [t, moreL t (-1), moreL t 1].filter (fun r => fitsB [r]), .un, .dat (wallD q), .dat (rowD sl), .dat (wallD t), .un, .un, ?_, fun r hr => ?_, by subst hd; rfl⟩))
    · intro d hd
      obtain ⟨r, hr, rfl⟩ := mem_wall hd
      refine ⟨_, rfl, by simp, ?_, fun _ => by walk_at "vx"⟩
      rw [rowOf_wall]
      refine et_val (ev_callD (PA := (· = [.dat (.list [wallD r])])) (Pc := pcFi) ⟨hFi⟩ rfl (ed_dat (ev_lst (ea_cons (by walk_at "vx") ea_nil) (hl := by show 1 ≤ 100000; decide)) ed_nil) (fun l hl => ⟨_, ⟨[r], _, hl, .inl rfl, by show 1 ≤ 100000; decide, fun s hs => ?_, rfl⟩, fun d hd => hd⟩))
      have e : s = r := by simpa using hs
      have rl : r.length = n := by
        simp at hr
        rcases hr with rfl | rfl | rfl
        · exact tl
        · exact mol _
        · exact mol _
      rw [e, rl]; show n ≤ 100000; omega
    · have := List.length_filter_le (fun r => fitsB [r]) [t, moreL t (-1), moreL t 1]
      simp only [List.length_cons, List.length_nil] at this
      rw [List.length_append]; omega
    · rcases List.mem_append.mp hr with h | h
      · exact gok r h
      · obtain ⟨h1, h3⟩ := List.mem_filter.mp h
        refine ⟨?_, fits_one h3⟩
        simp at h1
        rcases h1 with rfl | rfl | rfl
        · exact tl
        · exact mol _
        · exact mol _
  clear gl gok gs
  rintro ds' ⟨gs, z10, z11, z12, z13, z14, z15, gl, gok, rfl⟩
  have okA : Okw n (boxL n kk ++ a) := ⟨by omega, fun r hr => (shok r hr).1⟩
  have okB : Okw n b := ⟨by omega, fun r hr => (bok r hr).1⟩
  have smA : SmW (boxL n kk ++ a) := fun r hr x hx => Nat.le_trans ((shok r hr).2 x hx) (by decide)
  have smB : SmW b := fun r hr x hx => Nat.le_trans ((bok r hr).2 x hx) (by decide)
  have srA : Sr n (boxL n kk ++ a) := ⟨by omega, okA.len, fun r hr => wallP_small (n := n) (shok r hr).2 (by decide)⟩
  have srB : Sr n b := ⟨by omega, okB.len, fun r hr => wallP_small (n := n) (bok r hr).2 (by decide)⟩
  refine run_cons (Mid := fun _ => True)
    (rs_for (items := enumL (gs.map wallD)) (wk_enum rfl m.enumerate (by walk_at "var")) (tg_two (i := 10) (j := 14) (by walk_at "sto") (by walk_at "sto"))
      (fun _ ds' => ∃ z10 z14 z15 : SD, ds' = [z0, .deck, .dat (.int n), .dat (wallsD (boxL n kk)), .dat (wallD p), .dat (wallsD a), .dat (wallsD b), .dat (wallsD (boxL n kk ++ a)), .dat (cornD n (boxL n kk ++ a)), .dat (.list (gs.map wallD)), z10, z11, z12, z13, z14, z15, .un, .un, .un]) ⟨z10, z14, z15, rfl⟩ ?_ (fun ds' h => trivial)) (fun _ _ => run_one (rs_ret ev_bl rfl))
  rintro i d ds' hi ⟨z10, z14, z15, rfl⟩
  obtain ⟨d0, h0, rfl⟩ := enumL_get hi
  rw [List.getElem?_map] at h0
  obtain ⟨g, h1, rfl⟩ := Option.map_eq_some_iff.mp h0
  obtain ⟨hg, hgs⟩ := gok g (List.mem_of_getElem? h1)
  have hg40 : ∀ x ∈ g, x.natAbs ≤ 2 ^ 40 := fun x hx => Nat.le_trans (hgs x hx) (by decide)
  have hWg : WsOk n ((boxL n kk ++ a) ++ b ++ [negL g]) := by
    have ok : ∀ r ∈ (boxL n kk ++ a) ++ b ++ [negL g], r.length = n ∧ ∀ x ∈ r, x.natAbs ≤ 1000000 := fun r hr => by
      rcases List.mem_append.mp hr with h | h
      · rcases List.mem_append.mp h with h | h
        · exact shok r h
        · exact bok r h
      · simp only [List.mem_singleton] at h
        subst h
        refine ⟨by unfold negL; rw [List.length_map, hg], fun x hx => ?_⟩
        unfold negL at hx
        obtain ⟨y, hy, rfl⟩ := List.mem_map.mp hx
        rw [Int.natAbs_neg]; exact hgs y hy
    exact ⟨by rw [List.length_append, List.length_append]; simp only [List.length_singleton]; omega, fun r hr => (ok r hr).1, fun r hr x hx => Nat.le_trans ((ok r hr).2 x hx) (by decide)⟩
  have eBr : brokenB n (boxL n kk ++ a) b g = !fol n (boxL n kk ++ a) b g := broken_iff hT hWg (fun w hw => List.mem_append_left _ hw)
  refine ⟨_, ⟨_, _, rfl, rfl⟩, ?_⟩
  refine run_to (ds1 := [z0, .deck, .dat (.int n), .dat (wallsD (boxL n kk)), .dat (wallD p), .dat (wallsD a), .dat (wallsD b), .dat (wallsD (boxL n kk ++ a)), .dat (cornD n (boxL n kk ++ a)), .dat (.list (gs.map wallD)), .dat (.int (i : Nat)), z11, z12, z13, .dat (wallD g), .dat (.bool (fol n (boxL n kk ++ a) b g)), .un, .un, .un])
    (rs_setP (i := 15) (P := (· = .bool (fol n (boxL n kk ++ a) b g))) (by walk_at "sto") (ev_as (ev_not (x := brokenB n (boxL n kk ++ a) b g) (ev_callD (PA := (· = [.dat (wallsD (boxL n kk ++ a)), .dat (wallsD b), .dat (wallD g)])) (Pc := pcBr) ⟨hBr⟩ rfl (ed_dat (by walk_at "var") (ed_dat (by walk_at "var") (ed_dat (by walk_at "var") ed_nil))) (fun l hl => ⟨_, ⟨n, boxL n kk ++ a, b, g, hl, hT, hWg, rfl⟩, fun d hd => hd⟩))) (by rw [eBr, Bool.not_not])) (fun d hd => by subst hd; rfl)) ?_
  have jf : ∀ {ds : List SD}, True := fun {_} => trivial
  refine run_to (rs_if (PT := (· = false)) (et_as (et_ne (d := .str (boolS (fol n (boxL n kk ++ a) b g))) (e := .str (boolS (fol n (boxL n kk ++ a) b g))) (ev_reprB rfl hrp (ev_callD (PA := (· = [.dat (.int n), .dat (wallsD (boxL n kk ++ a)), .dat (wallsD b), .dat (wallD g)])) (Pc := pcDf) ⟨hDf⟩ rfl (ed_dat (by walk_at "var") (ed_dat (by walk_at "var") (ed_dat (by walk_at "var") (ed_dat (by walk_at "var") ed_nil)))) (fun l hl => ⟨_, ⟨n, boxL n kk ++ a, b, g, hl, h2, by omega, okA, okB, hg, smA, smB, hg40, rfl⟩, fun d hd => hd⟩))) (ev_reprB rfl hrp (by walk_at "var")) (by cases fol n (boxL n kk ++ a) b g <;> decide +kernel) (by cases fol n (boxL n kk ++ a) b g <;> decide +kernel)) (by cases fol n (boxL n kk ++ a) b g <;> decide +kernel)) (fun h => by cases h) (fun _ => run_nil rfl)) ?_
  refine run_to (rs_if (PT := (· = (decide ((i : Int) = 1) && false))) (et_of (ew_and (x := decide ((i : Int) = 1)) (y := false) (et_eqI (by walk_at "var") ev_int) (fun _ => ew_and1 (et_as (et_ne (d := .str (kindS (fol n (boxL n kk ++ a) b g))) (e := .str (kindS (fol n (boxL n kk ++ a) b g)))
      (ev_ixP (PA := fun d => ∃ r : Res, GoodR n (boxL n kk ++ a) (b ++ [boundW n, negL g]) r ∧ d = ansF (boxL n kk ++ a) b r) (PB := (· = .int 0)) (ev_callD (PA := (· = [.dat (.int n), .dat (wallsD (boxL n kk ++ a)), .dat (wallsD b), .dat (wallD g)])) (Pc := pcJf) ⟨hJf⟩ rfl (ed_dat (by walk_at "var") (ed_dat (by walk_at "var") (ed_dat (by walk_at "var") (ed_dat (by walk_at "var") ed_nil))))
        (fun l hl => ⟨_, ⟨n, boxL n kk ++ a, b, g, hl, h2, by omega, okA, okB, hg, smA, smB, hg40, rfl⟩, fun d hd => hd⟩)) ev_int (by
          rintro x y ⟨r, hr, rfl⟩ rfl
          cases r with
          | point q => exact ⟨_, 0, .str "point", rfl, .inr rfl, rfl, by rw [fol_point (by omega) hr.1]; rfl⟩
          | sum ws => exact ⟨_, 0, .str "weights", rfl, .inr rfl, rfl, by rw [fol_sum (by omega) hr.1]; rfl⟩))
      (ev_if (PT := (· = fol n (boxL n kk ++ a) b g)) (et_val (by walk_at "var")) (fun h => ev_as (x := .str "weights") ev_str (by rw [← h]; rfl)) (fun h => ev_as (x := .str "point") ev_str (by rw [← h]; rfl)))
      (by cases fol n (boxL n kk ++ a) b g <;> decide +kernel) (by cases fol n (boxL n kk ++ a) b g <;> decide +kernel)) (by cases fol n (boxL n kk ++ a) b g <;> decide +kernel))))) (fun h => by simp at h) (fun _ => run_nil rfl)) ?_
  exact run_one (rs_if (PT := (· = (fol n (boxL n kk ++ a) b g && false))) (et_of (ew_and (x := fol n (boxL n kk ++ a) b g) (y := false) (et_val (by walk_at "var")) (fun h => ew_and1 (et_not (b := true) (et_val (ev_callD (PA := (· = [.dat (.int n), .dat (wallsD (boxL n kk ++ a)), .dat (wallsD b), .dat (wallD g)])) (Pc := pcKn) ⟨hKn⟩ rfl (ed_dat (by walk_at "var") (ed_dat (by walk_at "var") (ed_dat (by walk_at "var") (ed_dat (by walk_at "var") ed_nil)))) (fun l hl => ⟨_, ⟨n, boxL n kk ++ a, b, g, hl, hT, srA, srB, hg, fun x hx => sm_42 (Nat.le_trans (hgs x hx) (by decide)), fol_true.mp h, rfl⟩, fun d hd => hd⟩))))))) (fun h => by simp at h) (fun _ => run_nil ⟨_, _, _, rfl⟩))
end

end K8

set_option Elab.async false
set_option maxRecDepth 100000
set_option exponentiation.threshold 2000
set_option linter.all false
set_option maxHeartbeats 1000000
namespace K8
open PySem L2 Dl
local macro_rules | `(tactic| walk_at "vis") => `(tactic| first | exact Or.inl rfl | exact Or.inr (Or.inl rfl) | exact Or.inr (Or.inr rfl))
local macro_rules | `(tactic| walk_at "sto") => `(tactic| first | exact ⟨rfl, Or.inl rfl, Or.inl rfl⟩ | exact ⟨rfl, Or.inl rfl, Or.inr rfl⟩ | exact ⟨rfl, Or.inr rfl, Or.inl rfl⟩)
local macro_rules | `(tactic| walk_at "var") => `(tactic| first
  | exact ev_var 0 rfl (by walk_at "vis") rfl | exact ev_var 1 rfl (by walk_at "vis") rfl | exact ev_var 2 rfl (by walk_at "vis") rfl | exact ev_var 3 rfl (by walk_at "vis") rfl
  | exact ev_var 4 rfl (by walk_at "vis") rfl | exact ev_var 5 rfl (by walk_at "vis") rfl | exact ev_var 6 rfl (by walk_at "vis") rfl | exact ev_var 7 rfl (by walk_at "vis") rfl
  | exact ev_var 8 rfl (by walk_at "vis") rfl | exact ev_var 9 rfl (by walk_at "vis") rfl | exact ev_var 10 rfl (by walk_at "vis") rfl | exact ev_var 11 rfl (by walk_at "vis") rfl
  | exact ev_var 12 rfl (by walk_at "vis") rfl | exact ev_var 13 rfl (by walk_at "vis") rfl | exact ev_var 14 rfl (by walk_at "vis") rfl | exact ev_var 15 rfl (by walk_at "vis") rfl)

local macro_rules | `(tactic| walk_at "ev") => `(tactic| first
  | exact ev_int | exact ev_bl | exact ev_str | exact ev_non
  | walk_at "var"
  | (refine ev_neg ?_ <;> walk_at "ev")
  | (refine ev_add ?_ ?_ <;> walk_at "ev")
  | (refine ev_sub ?_ ?_ <;> walk_at "ev"))

local macro_rules | `(tactic| walk_at "blk") => `(tactic| (dsimp only; decide +kernel))
theorem start_raw {K : Frag} {H : Hp} {v : V} {N : List Str} (hn : 1 ≤ N.length) : State K {} (fun _ => none) H (fun _ => none) H (L2.start N [v]) (.raw v :: List.replicate (N.length - 1) .un) := by
  refine ⟨fun _ _ h => (by cases h), Ex.refl _, fun p h => absurd rfl h, fun a o h _ => h, trivial, (by unfold L2.start; simp), fun p h => (by cases h), fun i sd h => ?_, fun i j d1 d2 p _ h => ?_⟩
  · cases i with
    | zero => cases h; rfl
    | succ i =>
      rw [List.getElem?_cons_succ, List.getElem?_replicate] at h
      split at h
      · cases h; trivial
      · cases h
  · cases i with
    | zero => cases h
    | succ i =>
      rw [List.getElem?_cons_succ, List.getElem?_replicate] at h
      split at h <;> cases h
theorem ef_imp {I : Inf} {c : Ct} {ds : List SD} {e : Expr} {PL PM : List D → Prop} (h : EvF I c e ds PL) (hi : ∀ l, PL l → PM l) : EvF I c e ds PM := fun X F σ G H s Q k =>
  h X F σ G H s Q (fun p xs G' H' l x1 s1 np hg hd hl hh r hp => k p xs G' H' l x1 s1 np hg hd hl hh r (hi l hp))
def spDk (K : Frag) : Sp := fun vs H Q _ => ∃ (a : Addr) (ns : List Int), vs = [.ref a] ∧ SqL K H a (ns.map V.int) ∧ ns.length ≤ 63 ∧
  ∀ (dk cc : Addr) (H' : Hp) (cells : List Int) (mixed : Int), dk ≠ cc → cells.length ≤ 64 → 0 ≤ mixed → mixed < 2147483587 → H' dk = some (deckO cc mixed 0) → H' cc = some (.lst (cells.map V.int)) → Q (.ref dk) H'
section
variable {P : Program} {w : World} {K : Frag} {mg : Str → Option Value} {base : Heap} {k : Nat} {f : Addr} {fd : FuncData}
/-! _law_deck(script) -/
abbrev sDk : Stmt := top 34
theorem scDk : FnScope ["_law_script", "_law_mixed", "_law_cell"] ["_law_script"] (defScope sDk) := ⟨rfl, rfl, rfl, by decide +kernel, rfl, by decide +kernel, by decide +kernel⟩
theorem ok_Dk (m : Mg mg) (F : Fun K "_law_deck" "_law_deck" sDk f fd) : FnOk P w K mg base CX0 (k + 1) f fd ["_law_script"] (spDk K) := by
  refine F.ok scDk (fun vs H Q E h => ?_) (fun cdv A outer s H vs Q E hr h => ?_)
  · obtain ⟨a, ns, rfl, _⟩ := h; rfl
  · obtain ⟨a, ns, rfl, hs, hl, q⟩ := h
    refine ⟨_, pss_w, ?_⟩
    have body : RunD ⟨P, w, K, mg, base, ["_law_script", "_law_mixed", "_law_cell"], defScope sDk, k, fun _ => true, false⟩ ⟨{}, fun _ => none, H⟩ (defBody sDk) [.raw (.ref a), .un, .un] := by
      refine rund_to (ds1 := [.raw (.ref a), .dat (.int 13731320), .un]) (rs_set (A := { nx := fun _ => False, rt := fun _ => False }) (i := 1) (by walk_at "sto") ev_int) ?_
      refine rund_cons (Mid := fun ds' => ∃ (mx : Int) (z : SD), 0 ≤ mx ∧ mx < 2147483587 ∧ ds' = [.raw (.ref a), .dat (.int mx), z]) (rs_for (items := (ns.take 63).map PyData.int) (wk_list (ev_lc (ef_script (i := 0) (m := 63) (ns := ns) rfl (by walk_at "vis") rfl hs rfl (by omega)))) (tg_name (i := 2) (by walk_at "sto"))
        (fun i ds' => ∃ (mx : Int) (z : SD), 0 ≤ mx ∧ mx < 2147483587 ∧ ds' = [.raw (.ref a), .dat (.int mx), z]) ⟨_, _, by decide, by decide, rfl⟩ ?_ (fun ds' h => h)) ?_
      · rintro i d ds' hi ⟨mx, z, h0, h1, rfl⟩
        obtain ⟨x, hx, rfl⟩ := get_int hi
        refine ⟨_, rfl, run_one (rs_setP (i := 1) (P := IsI (fun i => 0 ≤ i ∧ i < 2147483587)) (by walk_at "sto") (ev_modP (p := fun _ => True) (q := (· = 2147483587)) (ev_intIP rfl m.int (ev_addP (p := fun _ => True) (q := fun _ => True) (ev_addP (p := fun _ => True) (q := fun _ => True)
          (ev_mulS (p := (· = mx)) (q := (· = 69621)) ((ev_var 1 rfl (by walk_at "vis") rfl).imp isI) (ev_int.imp isI) (fun i j hi hj => by subst hj; exact small_r (by decide) (by decide)) (fun _ _ _ _ => trivial))
          (ev_modP (p := fun _ => True) (q := (· = 2147483629)) (ev_intIP rfl m.int ((ev_var 2 rfl (by walk_at "vis") rfl).imp (fun d hd => ⟨x, hd, trivial⟩))) (ev_int.imp isI) (fun i j _ hj => by subst hj; decide) (fun _ _ _ _ => trivial)) (fun _ _ _ _ => trivial)) (ev_int.imp (fun d hd => ⟨_, hd, trivial⟩)) (fun _ _ _ _ => trivial))) (ev_int.imp isI) (fun i j _ hj => by subst hj; decide) (fun i j _ hj => by subst hj; exact ⟨Int.emod_nonneg _ (by decide), Int.emod_lt_of_pos _ (by decide)⟩))
          (fun d hd => by obtain ⟨y, rfl, g1, g2⟩ := hd; exact ⟨y, .dat (.int x), g1, g2, rfl⟩))⟩
      · rintro ds' ⟨mx, z, h0, h1, rfl⟩
        refine rund_ret (m := mx) (ef_imp (ef_rev (ev_listL rfl m.list (ev_lc (ef_script (i := 0) (m := 63) (ns := ns) rfl (by walk_at "vis") rfl hs rfl (by omega))))) (fun l hl' => ⟨(ns.take 63).reverse, by rw [hl', List.map_reverse], by rw [List.length_reverse, List.length_take]; omega⟩)) (by walk_at "var") ev_int h0 h1
    exact body _ (fits_def scDk hr) _ (fun _ => none) H _ (start_raw (by decide)) (fun dk cc H' cells mixed a1 a2 a3 a4 a5 a6 => q dk cc H' cells mixed a1 a2 a3 a4 a5 a6)
end
theorem start_deck {K : Frag} {H : Hp} {v : Option V} {dk cc : Addr} {cells : List Int} {mixed : Int} {n : Nat} (hne : dk ≠ cc) (hl : cells.length ≤ 64) (h0 : 0 ≤ mixed) (h1 : mixed < 2147483587) (hd : H dk = some (deckO cc mixed 0)) (hc : H cc = some (.lst (cells.map V.int))) :
    State K { deck := some (dk, cc) } (fun _ => none) H (fun _ => none) H (v :: some (.ref dk) :: List.replicate n none) (.un :: .deck :: List.replicate n .un) := by
  refine ⟨fun _ _ h => (by cases h), Ex.refl _, fun p h => absurd rfl h, fun a o h _ => h, ⟨rfl, rfl, hne, cells, mixed, 0, hl, h0, h1, by decide, hd, hc⟩, (by simp), fun p h => (by cases h), fun i sd h => ?_, fun i j d1 d2 p _ h => ?_⟩
  · match i, h with
    | 0, h => cases h; trivial
    | 1, h => cases h; exact ⟨dk, cc, rfl, rfl⟩
    | i + 2, h =>
      rw [List.getElem?_cons_succ, List.getElem?_cons_succ, List.getElem?_replicate] at h
      split at h
      · cases h; trivial
      · cases h
  · match i, h with
    | 0, h => cases h
    | 1, h => cases h
    | i + 2, h =>
      rw [List.getElem?_cons_succ, List.getElem?_cons_succ, List.getElem?_replicate] at h
      split at h <;> cases h

end K8

set_option Elab.async false
set_option maxRecDepth 100000
set_option exponentiation.threshold 2000
set_option linter.all false
set_option maxHeartbeats 1000000
namespace K8
open PySem L2 Dl
local macro_rules | `(tactic| walk_at "vis") => `(tactic| first | exact Or.inl rfl | exact Or.inr (Or.inl rfl) | exact Or.inr (Or.inr rfl))
local macro_rules | `(tactic| walk_at "sto") => `(tactic| first | exact ⟨rfl, Or.inl rfl, Or.inl rfl⟩ | exact ⟨rfl, Or.inl rfl, Or.inr rfl⟩ | exact ⟨rfl, Or.inr rfl, Or.inl rfl⟩)
local macro_rules | `(tactic| walk_at "var") => `(tactic| first
  | exact ev_var 0 rfl (by walk_at "vis") rfl | exact ev_var 1 rfl (by walk_at "vis") rfl | exact ev_var 2 rfl (by walk_at "vis") rfl | exact ev_var 3 rfl (by walk_at "vis") rfl
  | exact ev_var 4 rfl (by walk_at "vis") rfl | exact ev_var 5 rfl (by walk_at "vis") rfl | exact ev_var 6 rfl (by walk_at "vis") rfl | exact ev_var 7 rfl (by walk_at "vis") rfl
  | exact ev_var 8 rfl (by walk_at "vis") rfl | exact ev_var 9 rfl (by walk_at "vis") rfl | exact ev_var 10 rfl (by walk_at "vis") rfl | exact ev_var 11 rfl (by walk_at "vis") rfl
  | exact ev_var 12 rfl (by walk_at "vis") rfl | exact ev_var 13 rfl (by walk_at "vis") rfl | exact ev_var 14 rfl (by walk_at "vis") rfl | exact ev_var 15 rfl (by walk_at "vis") rfl)

local macro_rules | `(tactic| walk_at "ev") => `(tactic| first
  | exact ev_int | exact ev_bl | exact ev_str | exact ev_non
  | walk_at "var"
  | (refine ev_neg ?_ <;> walk_at "ev")
  | (refine ev_add ?_ ?_ <;> walk_at "ev")
  | (refine ev_sub ?_ ?_ <;> walk_at "ev"))

local macro_rules | `(tactic| walk_at "blk") => `(tactic| (dsimp only; decide +kernel))
section
variable {P : Program} {w : World} {K : Frag} {mg : Str → Option Value} {k : Nat} {f a : Addr} {fd : FuncData} {ns : List Int}
theorem ok_Law (F : Fun K "law" "law" sLaw f fd) (hr : Room (k + 1) callerA) (hl : ns.length ≤ 63) (hDk : ∀ base : Heap, Has P w K mg base k "_law_deck" (spDk K))
    (rest : ∀ (base : Heap) (c : Ct) (z0 : SD), Run ⟨P, w, K, mg, base, nLaw, defScope sLaw, k, fun _ => true, true⟩ c ((defBody sLaw).drop 1) ([z0, .deck] ++ List.replicate (nLaw.length - 2) .un) { nx := fun _ => False, rt := (· = .bool true) }) :
    TopRuns P w K mg f a ns := by
  have hbind : ∀ (s : Shared) (u : Value), BindsTo s fd ⟨[u], []⟩ [("_law_script", u)] := by
    obtain ⟨oc, od, kV, doc, pm, an, cdv, ct, osl, rfl, lk, hcd⟩ := F.ex
    exact fun s v => .of_eq rfl
  refine fn_top F scLaw hr hbind fun base cdv s H hr2 hs => ?_
  obtain ⟨fk, fdk, psk, hm, hk, hb, G0⟩ := hDk base
  have Fi := fits_defG (P := P) (w := w) (K := K) (mg := mg) (base := base) (f := f) (qual := "law") (cdv := cdv) (A := callerA) (outer := []) (s := s) (H := H) (E := E0) scLaw hr2 rfl
  refine ⟨_, pss_cons (ps_set (i := 1) scLaw.nd rfl (Or.inr rfl) (pe_call G0 hr2 rfl hm hk hb .nil pass0 (pa_cons (pv 0) pa_nil)) rfl (Or.inl rfl)) (pss_w (sts := (defBody sLaw).drop 1)), ?_⟩
  refine ⟨_, rfl, ?_⟩
  refine ⟨a, ns, rfl, hs, hl, fun dk cc H' cells mixed h1 h2 h3 h4 h5 h6 => ?_⟩
  exact rest base ⟨{ deck := some (dk, cc) }, fun _ => none, H'⟩ .un _ Fi _ (fun _ => none) H' _ (start_deck (n := nLaw.length - 2) h1 h2 h3 h4 h5 h6) ⟨fun _ _ _ _ _ _ z => z.elim, fun _ _ _ _ _ _ z => z.elim, fun _ _ _ _ _ _ z => z.elim, fun v G' H2 d _ r e => by
    subst e
    rw [r.bl'], fun _ _ _ _ _ _ _ _ _ _ _ _ z => z.elim, fun _ _ _ _ _ _ _ _ _ _ _ _ _ _ _ _ _ _ _ _ z => z.elim⟩
end
def DefAt (K : Frag) (mg : Str → Option Value) (x : Str) (st : Stmt) : Prop := ∃ f fd, mg x = some (.ref f) ∧ PySem.W.keepIn K (.ref f) = true ∧ Fun K x x st f fd
section
variable {P : Program} {w : World} {K : Frag} {mg : Str → Option Value} {base : Heap} {k j : Nat} {x : Str} {st : Stmt} {sp : Sp} {ps : List Str}
theorem Has.mono (h : Has P w K mg base j x sp) (hj : j ≤ k) : Has P w K mg base k x sp := by
  obtain ⟨f, fd, ps, h1, h2, h3, h4⟩ := h
  exact ⟨f, fd, ps, h1, h2, h3, h4.mono hj⟩
theorem HasV.mono (h : HasV P w K mg base j x sp) (hj : j ≤ k) : HasV P w K mg base k x sp := by
  obtain ⟨f, h1, h2, h4⟩ := h
  exact ⟨f, h1, h2, fun A outer s H us vs Q E hr => h4 A outer s H us vs Q E (hr.mono hj)⟩
theorem DefAt.has (d : DefAt K mg x st) (hb : ∀ (kV doc pm : Value) (an : Option Addr) (cdv ct : Value) (us : List Value), us.length = ps.length → bindArgs (PySem.W.fnOf x x (defArgs st) (defBody st) (defScope st) .none kV doc pm an cdv ct) ⟨us, []⟩ = pure (ps.zip us))
    (ok : ∀ f fd, Fun K x x st f fd → FnOk P w K mg base CX0 k f fd ps sp) : Has P w K mg base k x sp := by
  obtain ⟨f, fd, h1, h2, F⟩ := d
  exact ⟨f, fd, ps, h1, h2, F.binds hb, ok f fd F⟩
theorem DefAt.hasV (d : DefAt K mg x st) (ok : ∀ f fd, Fun K x x st f fd → FnR P w K mg base CX0 k f sp) : HasV P w K mg base k x sp := by
  obtain ⟨f, fd, h1, h2, F⟩ := d
  exact ⟨f, h1, h2, ok f fd F⟩
end
theorem with_def {K : Frag} {h : Heap} {mg : Str → Option Value} {x : Str} {st : Stmt} {f : Addr} {goal : Prop} (X : K.In h) (G : h.Ns mainGlobals mg) {od an : Option Addr} {sl : Array (Option Value)} {oc kV dc pm cd ct : Value}
    (a : PySem.W.nsIn K mainGlobals x = some (some (.ref f))) (l : K.lookup f = some ⟨oc, od, .func (PySem.W.fnOf x x (defArgs st) (defBody st) (defScope st) .none kV dc pm an cd ct), sl⟩) (c : PySem.W.codeIn K cd x = true) (k : PySem.W.keepIn K (.ref f) = true)
    (rest : DefAt K mg x st → goal) : goal := rest ⟨f, _, PySem.W.mg_of X G a, k, fun_mk l c k⟩
theorem with_none {K : Frag} {h : Heap} {mg : Str → Option Value} {x : Str} {goal : Prop} (X : K.In h) (G : h.Ns mainGlobals mg) (a : PySem.W.nsIn K mainGlobals x = some none) (rest : mg x = none → goal) : goal := rest (PySem.W.mg_none_of X G a)
theorem with_val {K : Frag} {h : Heap} {mg : Str → Option Value} {x : Str} {v : Value} {goal : Prop} (X : K.In h) (G : h.Ns mainGlobals mg) (a : PySem.W.nsIn K mainGlobals x = some (some v)) (rest : mg x = some v → goal) : goal := rest (PySem.W.mg_of X G a)

end K8

set_option Elab.async false
set_option maxRecDepth 100000
set_option exponentiation.threshold 2000
set_option linter.all false
set_option maxHeartbeats 1000000
namespace K8
open PySem L2 Dl
local macro_rules | `(tactic| walk_at "vis") => `(tactic| first | exact Or.inl rfl | exact Or.inr (Or.inl rfl) | exact Or.inr (Or.inr rfl))
local macro_rules | `(tactic| walk_at "sto") => `(tactic| first | exact ⟨rfl, Or.inl rfl, Or.inl rfl⟩ | exact ⟨rfl, Or.inl rfl, Or.inr rfl⟩ | exact ⟨rfl, Or.inr rfl, Or.inl rfl⟩)
local macro_rules | `(tactic| walk_at "var") => `(tactic| first
  | exact ev_var 0 rfl (by walk_at "vis") rfl | exact ev_var 1 rfl (by walk_at "vis") rfl | exact ev_var 2 rfl (by walk_at "vis") rfl | exact ev_var 3 rfl (by walk_at "vis") rfl
  | exact ev_var 4 rfl (by walk_at "vis") rfl | exact ev_var 5 rfl (by walk_at "vis") rfl | exact ev_var 6 rfl (by walk_at "vis") rfl | exact ev_var 7 rfl (by walk_at "vis") rfl
  | exact ev_var 8 rfl (by walk_at "vis") rfl | exact ev_var 9 rfl (by walk_at "vis") rfl | exact ev_var 10 rfl (by walk_at "vis") rfl | exact ev_var 11 rfl (by walk_at "vis") rfl
  | exact ev_var 12 rfl (by walk_at "vis") rfl | exact ev_var 13 rfl (by walk_at "vis") rfl | exact ev_var 14 rfl (by walk_at "vis") rfl | exact ev_var 15 rfl (by walk_at "vis") rfl)

local macro_rules | `(tactic| walk_at "ev") => `(tactic| first
  | exact ev_int | exact ev_bl | exact ev_str | exact ev_non
  | walk_at "var"
  | (refine ev_neg ?_ <;> walk_at "ev")
  | (refine ev_add ?_ ?_ <;> walk_at "ev")
  | (refine ev_sub ?_ ?_ <;> walk_at "ev"))

local macro_rules | `(tactic| walk_at "blk") => `(tactic| (dsimp only; decide +kernel))
theorem join_all {P : Program} {w : World} {K : Frag} {mg : Str → Option Value} {base : Heap} (m : Mg mg) (hMB : ∃ t, mg "MOST_BORDERS" = some (.int 80 t)) (hrp : mg "repr" = none)
    (dCd : DefAt K mg "common_divisor" sCd)
    (dDv : DefAt K mg "divided" sDv)
    (dIs : DefAt K mg "is_sooner" sIs)
    (dFc : DefAt K mg "first_column" sFc)
    (dBc : DefAt K mg "best_column" sBc)
    (dLr : DefAt K mg "leaving_row" sLr)
    (dWo : DefAt K mg "weights_of" sWo)
    (dPv : DefAt K mg "pivoted" sPv)
    (dFr : DefAt K mg "first_rows" sFr)
    (dSe : DefAt K mg "settled_rows" sSe)
    (dJs : DefAt K mg "judge_signs" sJs)
    (dIi : DefAt K mg "is_integer" sIi)
    (dIb : DefAt K mg "is_between" sIb)
    (dAi : DefAt K mg "are_integers" sAi)
    (dBb : DefAt K mg "bound_border" sBb)
    (dDw : DefAt K mg "demand_width" sDw)
    (dBo : DefAt K mg "is_border" sBo)
    (dBs : DefAt K mg "are_borders" sBs)
    (dDr : DefAt K mg "demand_rooms" sDr)
    (dDq : DefAt K mg "demand_question" sDq)
    (dFf : DefAt K mg "found_follows" sJf)
    (dJf : DefAt K mg "judge_follows" sJq)
    (dDf : DefAt K mg "does_follow" sDf)
    (dDraw : DefAt K mg "_law_draw" sDraw)
    (dPick : DefAt K mg "_law_pick" sPick)
    (dItem : DefAt K mg "_law_item" sItem)
    (dBord : DefAt K mg "_law_border" sBord)
    (dBords : DefAt K mg "_law_borders" sBords)
    (dPt : DefAt K mg "_law_point" sPt)
    (dVal : DefAt K mg "_law_value" sVal)
    (dFi : DefAt K mg "_law_fits" sFi)
    (dTo : DefAt K mg "_law_toward" sTo)
    (dLi : DefAt K mg "_law_is_integer" sLi)
    (dLb : DefAt K mg "_law_is_border" sLb)
    (dLp : DefAt K mg "_law_is_point" sLp)
    (dBox : DefAt K mg "_law_box" sBox)
    (dCut : DefAt K mg "_law_cut" sCut)
    (dCor : DefAt K mg "_law_corners" sCor)
    (dMean : DefAt K mg "_law_mean" sMean)
    (dBr : DefAt K mg "_law_is_broken" sBr)
    (dLo : DefAt K mg "_law_longer" sLo)
    (dKn : DefAt K mg "_law_is_kept_nearby" sKn)
    (dDk : DefAt K mg "_law_deck" sDk)
    : Has P w K mg base 29 "_law_deck" (spDk K) ∧ ∀ (c : Ct) (z0 : SD), Run ⟨P, w, K, mg, base, nLaw, defScope sLaw, 29, fun _ => true, true⟩ c ((defBody sLaw).drop 1) ([z0, .deck] ++ List.replicate (nLaw.length - 2) .un) { nx := fun _ => False, rt := (· = .bool true) } := by
  have hCd : Has P w K mg base 1 "common_divisor" (spD K pcCd) := dCd.has (ps := ["row"]) (fun _ _ _ _ _ _ us hl => match us, hl with | [_], _ => rfl) fun f fd F => ok_Cd (k := 0) m F
  have hDv : Has P w K mg base 2 "divided" (spF K pcDv) := dDv.has (ps := ["row"]) (fun _ _ _ _ _ _ us hl => match us, hl with | [_], _ => rfl) fun f fd F => ok_Dv (k := 1) m F (hCd.mono (by decide))
  have hIs : Has P w K mg base 1 "is_sooner" (spD K pcIs) := dIs.has (ps := ["row", "other", "column", "start"]) (fun _ _ _ _ _ _ us hl => match us, hl with | [_, _, _, _], _ => rfl) fun f fd F => ok_Is (k := 0) F
  have hFc : Has P w K mg base 1 "first_column" (spD K pcFc) := dFc.has (ps := ["row", "many"]) (fun _ _ _ _ _ _ us hl => match us, hl with | [_, _], _ => rfl) fun f fd F => ok_Fc (k := 0) m F
  have hBc : Has P w K mg base 1 "best_column" (spD K pcBc) := dBc.has (ps := ["goal", "many"]) (fun _ _ _ _ _ _ us hl => match us, hl with | [_, _], _ => rfl) fun f fd F => ok_Bc (k := 0) m F
  have hLr : Has P w K mg base 2 "leaving_row" (spD K pcLr) := dLr.has (ps := ["rows", "column", "start"]) (fun _ _ _ _ _ _ us hl => match us, hl with | [_, _, _], _ => rfl) fun f fd F => ok_Lr (k := 1) m F (hIs.mono (by decide))
  have hWo : Has P w K mg base 1 "weights_of" (spF K pcWo) := dWo.has (ps := ["rows", "scale", "basis", "column", "many"]) (fun _ _ _ _ _ _ us hl => match us, hl with | [_, _, _, _, _], _ => rfl) fun f fd F => ok_Wo (k := 0) m F
  have hPv : Has P w K mg base 1 "pivoted" (spF K pcPv) := dPv.has (ps := ["rows", "scale", "at", "column"]) (fun _ _ _ _ _ _ us hl => match us, hl with | [_, _, _, _], _ => rfl) fun f fd F => ok_Pv (k := 0) m F
  have hFr : Has P w K mg base 1 "first_rows" (spF K pcFr) := dFr.has (ps := ["width", "weak", "strict"]) (fun _ _ _ _ _ _ us hl => match us, hl with | [_, _, _], _ => rfl) fun f fd F => ok_Fr (k := 0) m F
  have hSe : Has P w K mg base 2 "settled_rows" (spG K pcSe) := dSe.has (ps := ["rows", "width", "many"]) (fun _ _ _ _ _ _ us hl => match us, hl with | [_, _, _], _ => rfl) fun f fd F => ok_Se (k := 1) m F (hFc.mono (by decide)) (hPv.mono (by decide))
  have hJs : Has P w K mg base 3 "judge_signs" (spD K pcJs) := dJs.has (ps := ["width", "weak", "strict"]) (fun _ _ _ _ _ _ us hl => match us, hl with | [_, _, _], _ => rfl) fun f fd F => ok_Js (k := 2) m F (hSe.mono (by decide)) (hFr.mono (by decide)) (hBc.mono (by decide)) (hLr.mono (by decide)) (hDv.mono (by decide)) (hWo.mono (by decide)) (hPv.mono (by decide))
  have hJs2 := js_js2 hJs
  have hIi : Has P w K mg base 1 "is_integer" (spD K pcIi) := dIi.has (ps := ["thing"]) (fun _ _ _ _ _ _ us hl => match us, hl with | [_], _ => rfl) fun f fd F => ok_Ii (k := 0) m F
  have hIb : Has P w K mg base 2 "is_between" (spD K pcIb) := dIb.has (ps := ["thing", "low", "high"]) (fun _ _ _ _ _ _ us hl => match us, hl with | [_, _, _], _ => rfl) fun f fd F => ok_Ib (k := 1) m F (hIi.mono (by decide))
  have hAi : Has P w K mg base 2 "are_integers" (spD K pcAi) := dAi.has (ps := ["thing", "many"]) (fun _ _ _ _ _ _ us hl => match us, hl with | [_, _], _ => rfl) fun f fd F => ok_Ai (k := 1) m F (hIi.mono (by decide))
  have hBb : Has P w K mg base 1 "bound_border" (spD K pcBb) := dBb.has (ps := ["width"]) (fun _ _ _ _ _ _ us hl => match us, hl with | [_], _ => rfl) fun f fd F => ok_Bb (k := 0) F
  have hDw : Has P w K mg base 3 "demand_width" (spD K pcDw) := dDw.has (ps := ["width"]) (fun _ _ _ _ _ _ us hl => match us, hl with | [_], _ => rfl) fun f fd F => ok_Dw (k := 2) F (hIb.mono (by decide))
  have hBo : Has P w K mg base 4 "is_border" (spD K pcBo) := dBo.has (ps := ["width", "thing"]) (fun _ _ _ _ _ _ us hl => match us, hl with | [_, _], _ => rfl) fun f fd F => ok_Bo (k := 3) F (hDw.mono (by decide)) (hAi.mono (by decide))
  have hBs : Has P w K mg base 4 "are_borders" (spD K pcBs) := dBs.has (ps := ["width", "thing"]) (fun _ _ _ _ _ _ us hl => match us, hl with | [_, _], _ => rfl) fun f fd F => ok_Bs (k := 3) m hMB F (hDw.mono (by decide)) (hAi.mono (by decide))
  have hDr : HasV P w K mg base 5 "demand_rooms" (spD K pcDr) := dDr.hasV fun f fd F => ok_Dr (k := 4) F (hDw.mono (by decide)) (hBs.mono (by decide))
  have hDq : Has P w K mg base 6 "demand_question" (spD K pcDq) := dDq.has (ps := ["width", "walls", "stricts", "wall"]) (fun _ _ _ _ _ _ us hl => match us, hl with | [_, _, _, _], _ => rfl) fun f fd F => ok_Dq (k := 5) F (hDr.mono (by decide)) (hBo.mono (by decide))
  have hFf : Has P w K mg base 4 "found_follows" (spD K pcJf) := dFf.has (ps := ["width", "walls", "stricts", "wall"]) (fun _ _ _ _ _ _ us hl => match us, hl with | [_, _, _, _], _ => rfl) fun f fd F => ok_Ff (k := 3) m F (hBb.mono (by decide)) (hJs2.mono (by decide))
  have hJf : Has P w K mg base 7 "judge_follows" (spD K pcJf) := dJf.has (ps := ["width", "walls", "stricts", "wall"]) (fun _ _ _ _ _ _ us hl => match us, hl with | [_, _, _, _], _ => rfl) fun f fd F => ok_Jf (k := 6) F (hDq.mono (by decide)) (hFf.mono (by decide))
  have hDf : Has P w K mg base 8 "does_follow" (spD K pcDf) := dDf.has (ps := ["width", "walls", "stricts", "wall"]) (fun _ _ _ _ _ _ us hl => match us, hl with | [_, _, _, _], _ => rfl) fun f fd F => ok_Df (k := 7) F (hJf.mono (by decide))
  have hDraw : Has P w K mg base 1 "_law_draw" (spD K pcDraw) := dDraw.has (ps := ["_law_deck_here", "_law_many"]) (fun _ _ _ _ _ _ us hl => match us, hl with | [_, _], _ => rfl) fun f fd F => ok_Draw (k := 0) m F
  have hPick : Has P w K mg base 2 "_law_pick" (spD K pcPick) := dPick.has (ps := ["_law_deck_here", "_law_some"]) (fun _ _ _ _ _ _ us hl => match us, hl with | [_, _], _ => rfl) fun f fd F => ok_Pick (k := 1) m F (hDraw.mono (by decide))
  have hItem : Has P w K mg base 2 "_law_item" (spD K pcItem) := dItem.has (ps := ["_law_deck_here", "_law_most"]) (fun _ _ _ _ _ _ us hl => match us, hl with | [_, _], _ => rfl) fun f fd F => ok_Item (k := 1) F (hDraw.mono (by decide))
  have hBord : Has P w K mg base 3 "_law_border" (spD K pcBord) := dBord.has (ps := ["_law_deck_here", "_law_width"]) (fun _ _ _ _ _ _ us hl => match us, hl with | [_, _], _ => rfl) fun f fd F => ok_Bord (k := 2) m F (hDraw.mono (by decide)) (hPick.mono (by decide)) (hItem.mono (by decide))
  have hBords : Has P w K mg base 4 "_law_borders" (spD K pcBords) := dBords.has (ps := ["_law_deck_here", "_law_width", "_law_many"]) (fun _ _ _ _ _ _ us hl => match us, hl with | [_, _, _], _ => rfl) fun f fd F => ok_Bords (k := 3) m F (hBord.mono (by decide))
  have hPt : Has P w K mg base 3 "_law_point" (spD K pcPt) := dPt.has (ps := ["_law_deck_here", "_law_width"]) (fun _ _ _ _ _ _ us hl => match us, hl with | [_, _], _ => rfl) fun f fd F => ok_Pt (k := 2) m F (hDraw.mono (by decide)) (hItem.mono (by decide))
  have hVal : Has P w K mg base 1 "_law_value" (spD K pcVal) := dVal.has (ps := ["_law_shut", "_law_point_here"]) (fun _ _ _ _ _ _ us hl => match us, hl with | [_, _], _ => rfl) fun f fd F => ok_Val (k := 0) m F
  have hFi : Has P w K mg base 1 "_law_fits" (spD K pcFi) := dFi.has (ps := ["_law_shuts"]) (fun _ _ _ _ _ _ us hl => match us, hl with | [_], _ => rfl) fun f fd F => ok_Fi (k := 0) m F
  have hTo : Has P w K mg base 2 "_law_toward" (spD K pcTo) := dTo.has (ps := ["_law_shut", "_law_point_here", "_law_least"]) (fun _ _ _ _ _ _ us hl => match us, hl with | [_, _, _], _ => rfl) fun f fd F => ok_To (k := 1) m F (hVal.mono (by decide))
  have hLi : Has P w K mg base 1 "_law_is_integer" (spD K pcIi) := dLi.has (ps := ["_law_thing"]) (fun _ _ _ _ _ _ us hl => match us, hl with | [_], _ => rfl) fun f fd F => ok_Li (k := 0) m F
  have hLb : Has P w K mg base 2 "_law_is_border" (spD K pcLb) := dLb.has (ps := ["_law_width", "_law_thing"]) (fun _ _ _ _ _ _ us hl => match us, hl with | [_, _], _ => rfl) fun f fd F => ok_Lb (k := 1) m F (hLi.mono (by decide))
  have hLp : Has P w K mg base 3 "_law_is_point" (spD K pcLp) := dLp.has (ps := ["_law_width", "_law_shuts", "_law_stricts", "_law_thing"]) (fun _ _ _ _ _ _ us hl => match us, hl with | [_, _, _, _], _ => rfl) fun f fd F => ok_Lp (k := 2) m F (hLb.mono (by decide)) (hVal.mono (by decide))
  have hVw : Has P w K mg base 1 "_law_value" (spD K pcVw) := dVal.has (ps := ["_law_shut", "_law_point_here"]) (fun _ _ _ _ _ _ us hl => match us, hl with | [_, _], _ => rfl) fun f fd F => ok_Vw (k := 0) m F
  have hBox : Has P w K mg base 1 "_law_box" (spD K pcBox) := dBox.has (ps := ["_law_width", "_law_k"]) (fun _ _ _ _ _ _ us hl => match us, hl with | [_, _], _ => rfl) fun f fd F => ok_Box (k := 0) m F
  have hCut : Has P w K mg base 1 "_law_cut" (spD K pcCut) := dCut.has (ps := ["_law_one", "_law_other"]) (fun _ _ _ _ _ _ us hl => match us, hl with | [_, _], _ => rfl) fun f fd F => ok_Cut (k := 0) m F
  have hCor : Has P w K mg base 2 "_law_corners" (spD K pcCor) := dCor.has (ps := ["_law_shuts"]) (fun _ _ _ _ _ _ us hl => match us, hl with | [_], _ => rfl) fun f fd F => ok_Cor (k := 1) m F (hCut.mono (by decide)) (hVal.mono (by decide))
  have hMean : Has P w K mg base 1 "_law_mean" (spD K pcMean) := dMean.has (ps := ["_law_corners_here"]) (fun _ _ _ _ _ _ us hl => match us, hl with | [_], _ => rfl) fun f fd F => ok_Mean (k := 0) m F
  have hBr : Has P w K mg base 3 "_law_is_broken" (spD K pcBr) := dBr.has (ps := ["_law_shuts", "_law_stricts", "_law_shut"]) (fun _ _ _ _ _ _ us hl => match us, hl with | [_, _, _], _ => rfl) fun f fd F => ok_Br (k := 2) m F (hCor.mono (by decide)) (hMean.mono (by decide)) (hVw.mono (by decide))
  have hLo : Has P w K mg base 1 "_law_longer" (spD K pcLo) := dLo.has (ps := ["_law_points"]) (fun _ _ _ _ _ _ us hl => match us, hl with | [_], _ => rfl) fun f fd F => ok_Lo (k := 0) m F
  have hKn : Has P w K mg base 4 "_law_is_kept_nearby" (spD K pcKn) := dKn.has (ps := ["_law_width", "_law_shuts", "_law_stricts", "_law_shut"]) (fun _ _ _ _ _ _ us hl => match us, hl with | [_, _, _, _], _ => rfl) fun f fd F => ok_Kn (k := 3) m F (hLo.mono (by decide)) (hLp.mono (by decide)) (hVal.mono (by decide))
  have hDk : Has P w K mg base 1 "_law_deck" (spDk K) := dDk.has (ps := ["_law_script"]) (fun _ _ _ _ _ _ us hl => match us, hl with | [_], _ => rfl) fun f fd F => ok_Dk (k := 0) m F
  exact ⟨hDk.mono (by decide), fun c z0 => ok_rest (k := 29) m hrp (hDraw.mono (by decide)) (hPick.mono (by decide)) (hItem.mono (by decide)) (hBox.mono (by decide)) (hPt.mono (by decide)) (hBord.mono (by decide)) (hBords.mono (by decide)) (hTo.mono (by decide)) (hCor.mono (by decide)) (hFi.mono (by decide)) (hBr.mono (by decide)) (hKn.mono (by decide)) (hDf.mono (by decide)) (hJf.mono (by decide)) c z0⟩
theorem join {P : Program} {w : World} {K : Frag} {mg : Str → Option Value} (m : Mg mg) (hMB : ∃ t, mg "MOST_BORDERS" = some (.int 80 t)) (hrp : mg "repr" = none)
    (dCd : DefAt K mg "common_divisor" sCd)
    (dDv : DefAt K mg "divided" sDv)
    (dIs : DefAt K mg "is_sooner" sIs)
    (dFc : DefAt K mg "first_column" sFc)
    (dBc : DefAt K mg "best_column" sBc)
    (dLr : DefAt K mg "leaving_row" sLr)
    (dWo : DefAt K mg "weights_of" sWo)
    (dPv : DefAt K mg "pivoted" sPv)
    (dFr : DefAt K mg "first_rows" sFr)
    (dSe : DefAt K mg "settled_rows" sSe)
    (dJs : DefAt K mg "judge_signs" sJs)
    (dIi : DefAt K mg "is_integer" sIi)
    (dIb : DefAt K mg "is_between" sIb)
    (dAi : DefAt K mg "are_integers" sAi)
    (dBb : DefAt K mg "bound_border" sBb)
    (dDw : DefAt K mg "demand_width" sDw)
    (dBo : DefAt K mg "is_border" sBo)
    (dBs : DefAt K mg "are_borders" sBs)
    (dDr : DefAt K mg "demand_rooms" sDr)
    (dDq : DefAt K mg "demand_question" sDq)
    (dFf : DefAt K mg "found_follows" sJf)
    (dJf : DefAt K mg "judge_follows" sJq)
    (dDf : DefAt K mg "does_follow" sDf)
    (dDraw : DefAt K mg "_law_draw" sDraw)
    (dPick : DefAt K mg "_law_pick" sPick)
    (dItem : DefAt K mg "_law_item" sItem)
    (dBord : DefAt K mg "_law_border" sBord)
    (dBords : DefAt K mg "_law_borders" sBords)
    (dPt : DefAt K mg "_law_point" sPt)
    (dVal : DefAt K mg "_law_value" sVal)
    (dFi : DefAt K mg "_law_fits" sFi)
    (dTo : DefAt K mg "_law_toward" sTo)
    (dLi : DefAt K mg "_law_is_integer" sLi)
    (dLb : DefAt K mg "_law_is_border" sLb)
    (dLp : DefAt K mg "_law_is_point" sLp)
    (dBox : DefAt K mg "_law_box" sBox)
    (dCut : DefAt K mg "_law_cut" sCut)
    (dCor : DefAt K mg "_law_corners" sCor)
    (dMean : DefAt K mg "_law_mean" sMean)
    (dBr : DefAt K mg "_law_is_broken" sBr)
    (dLo : DefAt K mg "_law_longer" sLo)
    (dKn : DefAt K mg "_law_is_kept_nearby" sKn)
    (dDk : DefAt K mg "_law_deck" sDk)
    (dLaw : DefAt K mg "law" sLaw) {fa : Addr} (hfa : mg "law" = some (.ref fa)) (a : Addr) (ns : List Int) (hl : ns.length ≤ 63) : TopRuns P w K mg fa a ns := by
  obtain ⟨fl, fd, e1, _, F⟩ := dLaw
  cases hfa.symm.trans e1
  exact ok_Law (k := 29) F ⟨rfl, by decide, by decide⟩ hl (fun base => (join_all (base := base) m hMB hrp dCd dDv dIs dFc dBc dLr dWo dPv dFr dSe dJs dIi dIb dAi dBb dDw dBo dBs dDr dDq dFf dJf dDf dDraw dPick dItem dBord dBords dPt dVal dFi dTo dLi dLb dLp dBox dCut dCor dMean dBr dLo dKn dDk).1) (fun base => (join_all (base := base) m hMB hrp dCd dDv dIs dFc dBc dLr dWo dPv dFr dSe dJs dIi dIb dAi dBb dDw dBo dBs dDr dDq dFf dJf dDf dDraw dPick dItem dBord dBords dPt dVal dFi dTo dLi dLb dLp dBox dCut dCor dMean dBr dLo dKn dDk).2)

end K8

open PySem PySem.W PyProof.Rows
set_option Elab.async false
set_option maxRecDepth 100000 in
set_option maxHeartbeats 0 in
theorem PySem.Challenge.cw_tripmeans_k03_whole_follows_by_corners_a_holds : PySem.Challenge.rw_tripmeans_k03_whole_follows_by_corners_a.Holds := by
  w_on; o_law; k_head; (case hw => w_witness2)
  k_fill
  refine Dl.walk_top (l := PySem.Challenge.rw_tripmeans_k03_whole_follows_by_corners_a) rfl rfl (fun w h Y => PySem.W.kIn_of Y) ?F
  case F =>
    intro w mg fa h KX G hmg
    refine' K8.with_def (x := "common_divisor") (st := K8.top 10) KX G ?a10 ?l10 ?c10 ?k10 ?r10; (case a10 => k_is); (case l10 => k_is); (case c10 => k_is); (case k10 => k_is)
    intro dCd
    refine' K8.with_def (x := "divided") (st := K8.top 11) KX G ?a11 ?l11 ?c11 ?k11 ?r11; (case a11 => k_is); (case l11 => k_is); (case c11 => k_is); (case k11 => k_is)
    intro dDv
    refine' K8.with_def (x := "is_sooner") (st := K8.top 20) KX G ?a20 ?l20 ?c20 ?k20 ?r20; (case a20 => k_is); (case l20 => k_is); (case c20 => k_is); (case k20 => k_is)
    intro dIs
    refine' K8.with_def (x := "first_column") (st := K8.top 17) KX G ?a17 ?l17 ?c17 ?k17 ?r17; (case a17 => k_is); (case l17 => k_is); (case c17 => k_is); (case k17 => k_is)
    intro dFc
    refine' K8.with_def (x := "best_column") (st := K8.top 18) KX G ?a18 ?l18 ?c18 ?k18 ?r18; (case a18 => k_is); (case l18 => k_is); (case c18 => k_is); (case k18 => k_is)
    intro dBc
    refine' K8.with_def (x := "leaving_row") (st := K8.top 19) KX G ?a19 ?l19 ?c19 ?k19 ?r19; (case a19 => k_is); (case l19 => k_is); (case c19 => k_is); (case k19 => k_is)
    intro dLr
    refine' K8.with_def (x := "weights_of") (st := K8.top 21) KX G ?a21 ?l21 ?c21 ?k21 ?r21; (case a21 => k_is); (case l21 => k_is); (case c21 => k_is); (case k21 => k_is)
    intro dWo
    refine' K8.with_def (x := "pivoted") (st := K8.top 15) KX G ?a15 ?l15 ?c15 ?k15 ?r15; (case a15 => k_is); (case l15 => k_is); (case c15 => k_is); (case k15 => k_is)
    intro dPv
    refine' K8.with_def (x := "first_rows") (st := K8.top 14) KX G ?a14 ?l14 ?c14 ?k14 ?r14; (case a14 => k_is); (case l14 => k_is); (case c14 => k_is); (case k14 => k_is)
    intro dFr
    refine' K8.with_def (x := "settled_rows") (st := K8.top 16) KX G ?a16 ?l16 ?c16 ?k16 ?r16; (case a16 => k_is); (case l16 => k_is); (case c16 => k_is); (case k16 => k_is)
    intro dSe
    refine' K8.with_def (x := "judge_signs") (st := K8.top 13) KX G ?a13 ?l13 ?c13 ?k13 ?r13; (case a13 => k_is); (case l13 => k_is); (case c13 => k_is); (case k13 => k_is)
    intro dJs
    refine' K8.with_def (x := "is_integer") (st := K8.top 7) KX G ?a7 ?l7 ?c7 ?k7 ?r7; (case a7 => k_is); (case l7 => k_is); (case c7 => k_is); (case k7 => k_is)
    intro dIi
    refine' K8.with_def (x := "is_between") (st := K8.top 8) KX G ?a8 ?l8 ?c8 ?k8 ?r8; (case a8 => k_is); (case l8 => k_is); (case c8 => k_is); (case k8 => k_is)
    intro dIb
    refine' K8.with_def (x := "are_integers") (st := K8.top 9) KX G ?a9 ?l9 ?c9 ?k9 ?r9; (case a9 => k_is); (case l9 => k_is); (case c9 => k_is); (case k9 => k_is)
    intro dAi
    refine' K8.with_def (x := "bound_border") (st := K8.top 29) KX G ?a29 ?l29 ?c29 ?k29 ?r29; (case a29 => k_is); (case l29 => k_is); (case c29 => k_is); (case k29 => k_is)
    intro dBb
    refine' K8.with_def (x := "demand_width") (st := K8.top 26) KX G ?a26 ?l26 ?c26 ?k26 ?r26; (case a26 => k_is); (case l26 => k_is); (case c26 => k_is); (case k26 => k_is)
    intro dDw
    refine' K8.with_def (x := "is_border") (st := K8.top 24) KX G ?a24 ?l24 ?c24 ?k24 ?r24; (case a24 => k_is); (case l24 => k_is); (case c24 => k_is); (case k24 => k_is)
    intro dBo
    refine' K8.with_def (x := "are_borders") (st := K8.top 25) KX G ?a25 ?l25 ?c25 ?k25 ?r25; (case a25 => k_is); (case l25 => k_is); (case c25 => k_is); (case k25 => k_is)
    intro dBs
    refine' K8.with_def (x := "demand_rooms") (st := K8.top 27) KX G ?a27 ?l27 ?c27 ?k27 ?r27; (case a27 => k_is); (case l27 => k_is); (case c27 => k_is); (case k27 => k_is)
    intro dDr
    refine' K8.with_def (x := "demand_question") (st := K8.top 28) KX G ?a28 ?l28 ?c28 ?k28 ?r28; (case a28 => k_is); (case l28 => k_is); (case c28 => k_is); (case k28 => k_is)
    intro dDq
    refine' K8.with_def (x := "found_follows") (st := K8.top 31) KX G ?a31 ?l31 ?c31 ?k31 ?r31; (case a31 => k_is); (case l31 => k_is); (case c31 => k_is); (case k31 => k_is)
    intro dFf
    refine' K8.with_def (x := "judge_follows") (st := K8.top 30) KX G ?a30 ?l30 ?c30 ?k30 ?r30; (case a30 => k_is); (case l30 => k_is); (case c30 => k_is); (case k30 => k_is)
    intro dJf
    refine' K8.with_def (x := "does_follow") (st := K8.top 32) KX G ?a32 ?l32 ?c32 ?k32 ?r32; (case a32 => k_is); (case l32 => k_is); (case c32 => k_is); (case k32 => k_is)
    intro dDf
    refine' K8.with_def (x := "_law_draw") (st := K8.top 35) KX G ?a35 ?l35 ?c35 ?k35 ?r35; (case a35 => k_is); (case l35 => k_is); (case c35 => k_is); (case k35 => k_is)
    intro dDraw
    refine' K8.with_def (x := "_law_pick") (st := K8.top 36) KX G ?a36 ?l36 ?c36 ?k36 ?r36; (case a36 => k_is); (case l36 => k_is); (case c36 => k_is); (case k36 => k_is)
    intro dPick
    refine' K8.with_def (x := "_law_item") (st := K8.top 41) KX G ?a41 ?l41 ?c41 ?k41 ?r41; (case a41 => k_is); (case l41 => k_is); (case c41 => k_is); (case k41 => k_is)
    intro dItem
    refine' K8.with_def (x := "_law_border") (st := K8.top 42) KX G ?a42 ?l42 ?c42 ?k42 ?r42; (case a42 => k_is); (case l42 => k_is); (case c42 => k_is); (case k42 => k_is)
    intro dBord
    refine' K8.with_def (x := "_law_borders") (st := K8.top 43) KX G ?a43 ?l43 ?c43 ?k43 ?r43; (case a43 => k_is); (case l43 => k_is); (case c43 => k_is); (case k43 => k_is)
    intro dBords
    refine' K8.with_def (x := "_law_point") (st := K8.top 44) KX G ?a44 ?l44 ?c44 ?k44 ?r44; (case a44 => k_is); (case l44 => k_is); (case c44 => k_is); (case k44 => k_is)
    intro dPt
    refine' K8.with_def (x := "_law_value") (st := K8.top 39) KX G ?a39 ?l39 ?c39 ?k39 ?r39; (case a39 => k_is); (case l39 => k_is); (case c39 => k_is); (case k39 => k_is)
    intro dVal
    refine' K8.with_def (x := "_law_fits") (st := K8.top 47) KX G ?a47 ?l47 ?c47 ?k47 ?r47; (case a47 => k_is); (case l47 => k_is); (case c47 => k_is); (case k47 => k_is)
    intro dFi
    refine' K8.with_def (x := "_law_toward") (st := K8.top 45) KX G ?a45 ?l45 ?c45 ?k45 ?r45; (case a45 => k_is); (case l45 => k_is); (case c45 => k_is); (case k45 => k_is)
    intro dTo
    refine' K8.with_def (x := "_law_is_integer") (st := K8.top 37) KX G ?a37 ?l37 ?c37 ?k37 ?r37; (case a37 => k_is); (case l37 => k_is); (case c37 => k_is); (case k37 => k_is)
    intro dLi
    refine' K8.with_def (x := "_law_is_border") (st := K8.top 38) KX G ?a38 ?l38 ?c38 ?k38 ?r38; (case a38 => k_is); (case l38 => k_is); (case c38 => k_is); (case k38 => k_is)
    intro dLb
    refine' K8.with_def (x := "_law_is_point") (st := K8.top 40) KX G ?a40 ?l40 ?c40 ?k40 ?r40; (case a40 => k_is); (case l40 => k_is); (case c40 => k_is); (case k40 => k_is)
    intro dLp
    refine' K8.with_def (x := "_law_box") (st := K8.top 46) KX G ?a46 ?l46 ?c46 ?k46 ?r46; (case a46 => k_is); (case l46 => k_is); (case c46 => k_is); (case k46 => k_is)
    intro dBox
    refine' K8.with_def (x := "_law_cut") (st := K8.top 48) KX G ?a48 ?l48 ?c48 ?k48 ?r48; (case a48 => k_is); (case l48 => k_is); (case c48 => k_is); (case k48 => k_is)
    intro dCut
    refine' K8.with_def (x := "_law_corners") (st := K8.top 49) KX G ?a49 ?l49 ?c49 ?k49 ?r49; (case a49 => k_is); (case l49 => k_is); (case c49 => k_is); (case k49 => k_is)
    intro dCor
    refine' K8.with_def (x := "_law_mean") (st := K8.top 50) KX G ?a50 ?l50 ?c50 ?k50 ?r50; (case a50 => k_is); (case l50 => k_is); (case c50 => k_is); (case k50 => k_is)
    intro dMean
    refine' K8.with_def (x := "_law_is_broken") (st := K8.top 51) KX G ?a51 ?l51 ?c51 ?k51 ?r51; (case a51 => k_is); (case l51 => k_is); (case c51 => k_is); (case k51 => k_is)
    intro dBr
    refine' K8.with_def (x := "_law_longer") (st := K8.top 53) KX G ?a53 ?l53 ?c53 ?k53 ?r53; (case a53 => k_is); (case l53 => k_is); (case c53 => k_is); (case k53 => k_is)
    intro dLo
    refine' K8.with_def (x := "_law_is_kept_nearby") (st := K8.top 52) KX G ?a52 ?l52 ?c52 ?k52 ?r52; (case a52 => k_is); (case l52 => k_is); (case c52 => k_is); (case k52 => k_is)
    intro dKn
    refine' K8.with_def (x := "_law_deck") (st := K8.top 34) KX G ?a34 ?l34 ?c34 ?k34 ?r34; (case a34 => k_is); (case l34 => k_is); (case c34 => k_is); (case k34 => k_is)
    intro dDk
    refine' K8.with_def (x := "law") (st := K8.top 54) KX G ?a54 ?l54 ?c54 ?k54 ?r54; (case a54 => k_is); (case l54 => k_is); (case c54 => k_is); (case k54 => k_is)
    intro dLaw
    refine' K8.with_none (x := "len") KX G ?a_len ?r_len; (case a_len => k_is)
    intro z_len
    refine' K8.with_none (x := "range") KX G ?a_range ?r_range; (case a_range => k_is)
    intro z_range
    refine' K8.with_none (x := "enumerate") KX G ?a_enumerate ?r_enumerate; (case a_enumerate => k_is)
    intro z_enumerate
    refine' K8.with_none (x := "zip") KX G ?a_zip ?r_zip; (case a_zip => k_is)
    intro z_zip
    refine' K8.with_none (x := "list") KX G ?a_list ?r_list; (case a_list => k_is)
    intro z_list
    refine' K8.with_none (x := "tuple") KX G ?a_tuple ?r_tuple; (case a_tuple => k_is)
    intro z_tuple
    refine' K8.with_none (x := "int") KX G ?a_int ?r_int; (case a_int => k_is)
    intro z_int
    refine' K8.with_none (x := "max") KX G ?a_max ?r_max; (case a_max => k_is)
    intro z_max
    refine' K8.with_none (x := "isinstance") KX G ?a_isinstance ?r_isinstance; (case a_isinstance => k_is)
    intro z_isinstance
    refine' K8.with_none (x := "bool") KX G ?a_bool ?r_bool; (case a_bool => k_is)
    intro z_bool
    refine' K8.with_none (x := "all") KX G ?a_all ?r_all; (case a_all => k_is)
    intro z_all
    refine' K8.with_none (x := "sum") KX G ?a_sum ?r_sum; (case a_sum => k_is)
    intro z_sum
    refine' K8.with_none (x := "abs") KX G ?a_abs ?r_abs; (case a_abs => k_is)
    intro z_abs
    refine' K8.with_none (x := "repr") KX G ?a_repr ?r_repr; (case a_repr => k_is)
    intro z_repr
    refine' K8.with_val (x := "gcd") (v := .builtin "math.gcd") KX G ?a_gcd ?r_gcd; (case a_gcd => k_is)
    intro z_gcd
    refine' K8.with_val (x := "MOST_BORDERS") KX G ?a_mb ?r_mb; (case a_mb => k_is)
    intro z_most
    exact fun a ns hl => K8.join (P := PySem.Challenge.rw_tripmeans_k03_whole_follows_by_corners_a.prog) (w := w) ⟨z_len, z_range, z_enumerate, z_zip, z_list, z_tuple, z_int, z_max, z_isinstance, z_bool, z_all, z_sum, z_abs, z_gcd⟩ ⟨_, z_most⟩ z_repr dCd dDv dIs dFc dBc dLr dWo dPv dFr dSe dJs dIi dIb dAi dBb dDw dBo dBs dDr dDq dFf dJf dDf dDraw dPick dItem dBord dBords dPt dVal dFi dTo dLi dLb dLp dBox dCut dCor dMean dBr dLo dKn dDk dLaw hmg a ns hl

