import PyProof.Rows.All
import Wide.All
import OpenK.AllK
import Wide.FinOn
import PySem.Challenge.RW_anyfactors_k01_valid_names
import HandS.ForMost
import HandS.Wide
import HandS.IsInst
import HandS.TupAny
import HandS.Deep
import HandS.Zip
import HandS.Flow
import HandS.Style
import HandS.ExcOwn
import HandS.WordsExc
import HandS.Codes
import HandS.Call
import HandS.EndBits
import PyProof.FitsReplace
set_option Elab.async false
set_option linter.all false
set_option maxRecDepth 100000
namespace VI
open PySem PySem.Spec PyProof.Rows L2

/-! ### data -/
inductive D where
  | non | bl (b : Bool) | int (i : Int) | str (s : Str)
  | tup (xs : List D) | lst (xs : List D)
  | dk (ks : List Key) (xs : List D) | dt (ks : List (List Key)) (xs : List D)
  | ins (c : Str) (ns : List Str) (xs : List D)
  deriving Inhabited

/-- the constants of a text: its written part, its classes -/
structure Gm where
  K : PySem.W.Frag
  cl : Str → Addr

mutual
/-- v holds d, all of it in F -/
def Rep (g : Gm) (F : Hp) : D → V → Prop
  | .non, v => v = .non
  | .bl b, v => v = .bl b
  | .int i, v => v = .int i
  | .str s, v => v = .str s ∧ PyData.strOk s = true
  | .tup ds, v => ∃ a vs, v = .ref a ∧ SqT g.K F a vs ∧ Reps g F ds vs
  | .lst ds, v => ∃ a vs, v = .ref a ∧ F a = some (.lst vs) ∧ Reps g F ds vs
  | .dk ks ds, v => ∃ a vs, v = .ref a ∧ F a = some (.dK (ks.zip vs)) ∧ ks.length = ds.length ∧ Reps g F ds vs
  | .dt ks ds, v => ∃ a vs, v = .ref a ∧ F a = some (.dT (ks.zip vs)) ∧ ks.length = ds.length ∧ Reps g F ds vs
  | .ins c ns ds, v => ∃ a dx vs, v = .ref a ∧ F a = some (.ins (g.cl c) dx (ns.zip vs)) ∧ ns.length = ds.length ∧ Reps g F ds vs
def Reps (g : Gm) (F : Hp) : List D → List V → Prop
  | [], vs => vs = []
  | d :: ds, vs => ∃ v ws, vs = v :: ws ∧ Rep g F d v ∧ Reps g F ds ws
end

/-- F is part of H -/
def Sub (F H : Hp) : Prop := ∀ p o, F p = some o → H p = some o
theorem Sub.refl (F : Hp) : Sub F F := fun _ _ h => h
theorem Sub.trans {F G H : Hp} (a : Sub F G) (b : Sub G H) : Sub F H := fun p o h => b p o (a p o h)
theorem Sub.upd {F H : Hp} (s : Sub F H) {p : Addr} (o : HO) (h : F p = none) : Sub F (upd H p o) := fun q u e => by
  rw [upd_ne (ne_of_none e h)]; exact s q u e
theorem Sub.new {H : Hp} {p : Addr} (o : HO) (h : H p = none) : Sub H (L2.upd H p o) := Sub.upd (Sub.refl H) o h
theorem Sub.both {F H : Hp} (s : Sub F H) {p : Addr} (o : HO) : Sub (L2.upd F p o) (L2.upd H p o) := fun q u e => by
  by_cases h : q = p
  · subst h; rw [upd_same] at e ⊢; exact e
  · rw [upd_ne h] at e ⊢; exact s q u e
theorem Sub.rd {F H : Hp} (s : Sub F H) {a : Addr} {u : HO} (h : Rd F a u) : Rd H a u := by
  rcases h with h | ⟨o, h⟩
  · exact .inl (s _ _ h)
  · exact .inr ⟨o, s _ _ h⟩
theorem Sub.sqL {K : PySem.W.Frag} {F H : Hp} (s : Sub F H) {a : Addr} {xs : List V} (h : SqL K F a xs) : SqL K H a xs := h.imp s.rd id
theorem Sub.sqT {K : PySem.W.Frag} {F H : Hp} (s : Sub F H) {a : Addr} {xs : List V} (h : SqT K F a xs) : SqT K H a xs := h.imp s.rd id

section
variable {g : Gm} {F F' H : Hp}
mutual
theorem Rep.mono (s : Sub F F') : ∀ {d : D} {v : V}, Rep g F d v → Rep g F' d v
  | .non, _, h => h
  | .bl _, _, h => h
  | .int _, _, h => h
  | .str _, _, h => h
  | .tup _, _, h => by simp only [Rep] at h ⊢; obtain ⟨a, vs, e, h1, h2⟩ := h; exact ⟨a, vs, e, s.sqT h1, Reps.mono s h2⟩
  | .lst _, _, h => by simp only [Rep] at h ⊢; obtain ⟨a, vs, e, h1, h2⟩ := h; exact ⟨a, vs, e, s _ _ h1, Reps.mono s h2⟩
  | .dk _ _, _, h => by simp only [Rep] at h ⊢; obtain ⟨a, vs, e, h1, hl, h2⟩ := h; exact ⟨a, vs, e, s _ _ h1, hl, Reps.mono s h2⟩
  | .dt _ _, _, h => by simp only [Rep] at h ⊢; obtain ⟨a, vs, e, h1, hl, h2⟩ := h; exact ⟨a, vs, e, s _ _ h1, hl, Reps.mono s h2⟩
  | .ins _ _ _, _, h => by simp only [Rep] at h ⊢; obtain ⟨a, dx, vs, e, h1, hl, h2⟩ := h; exact ⟨a, dx, vs, e, s _ _ h1, hl, Reps.mono s h2⟩
theorem Reps.mono (s : Sub F F') : ∀ {ds : List D} {vs : List V}, Reps g F ds vs → Reps g F' ds vs
  | [], _, h => h
  | _ :: _, _, h => by simp only [Reps] at h ⊢; obtain ⟨v, ws, e, h1, h2⟩ := h; exact ⟨v, ws, e, Rep.mono s h1, Reps.mono s h2⟩
end
theorem Reps.cons {d : D} {ds : List D} {v : V} {vs : List V} (h : Rep g F d v) (t : Reps g F ds vs) : Reps g F (d :: ds) (v :: vs) := by
  simp only [Reps]; exact ⟨v, vs, rfl, h, t⟩
theorem Reps.nil : Reps g F [] [] := by simp only [Reps]
theorem Reps.uncons {d : D} {ds : List D} {vs : List V} (h : Reps g F (d :: ds) vs) : ∃ v ws, vs = v :: ws ∧ Rep g F d v ∧ Reps g F ds ws := by simpa only [Reps] using h
theorem Reps.length : ∀ {ds : List D} {vs : List V}, Reps g F ds vs → ds.length = vs.length
  | [], _, h => by simp only [Reps] at h; subst h; rfl
  | _ :: _, _, h => by obtain ⟨v, ws, rfl, _, t⟩ := h.uncons; simp [Reps.length t]
theorem Reps.append : ∀ {ds es : List D} {vs ws : List V}, Reps g F ds vs → Reps g F es ws → Reps g F (ds ++ es) (vs ++ ws)
  | [], _, _, _, h, t => by simp only [Reps] at h; subst h; exact t
  | _ :: _, _, _, _, h, t => by obtain ⟨v, us, rfl, h1, h2⟩ := h.uncons; exact Reps.cons h1 (Reps.append h2 t)
theorem Reps.one {d : D} {v : V} (h : Rep g F d v) : Reps g F [d] [v] := Reps.cons h Reps.nil
theorem Reps.get : ∀ {ds : List D} {vs : List V} {i : Nat} {d : D}, Reps g F ds vs → ds[i]? = some d → ∃ v, vs[i]? = some v ∧ Rep g F d v
  | [], _, _, _, _, e => by simp at e
  | _ :: _, _, 0, _, h, e => by obtain ⟨v, ws, rfl, h1, _⟩ := h.uncons; simp at e; subst e; exact ⟨v, rfl, h1⟩
  | _ :: _, _, i + 1, _, h, e => by obtain ⟨v, ws, rfl, _, h2⟩ := h.uncons; simpa using Reps.get h2 (by simpa using e)
theorem Reps.getV : ∀ {ds : List D} {vs : List V} {i : Nat} {v : V}, Reps g F ds vs → vs[i]? = some v → ∃ d, ds[i]? = some d ∧ Rep g F d v
  | [], _, _, _, h, e => by simp only [Reps] at h; subst h; simp at e
  | _ :: _, _, 0, _, h, e => by obtain ⟨v, ws, rfl, h1, _⟩ := h.uncons; simp at e; subst e; exact ⟨_, rfl, h1⟩
  | _ :: _, _, i + 1, _, h, e => by obtain ⟨v, ws, rfl, _, h2⟩ := h.uncons; simpa using Reps.getV h2 (by simpa using e)
theorem Reps.take : ∀ {ds : List D} {vs : List V} (n : Nat), Reps g F ds vs → Reps g F (ds.take n) (vs.take n)
  | [], _, _, h => by simp only [Reps] at h; subst h; simp [Reps]
  | _ :: _, _, 0, h => by simp [Reps]
  | _ :: _, _, n + 1, h => by obtain ⟨v, ws, rfl, h1, h2⟩ := h.uncons; exact Reps.cons h1 (Reps.take n h2)
theorem Reps.drop : ∀ {ds : List D} {vs : List V} (n : Nat), Reps g F ds vs → Reps g F (ds.drop n) (vs.drop n)
  | [], _, _, h => by simp only [Reps] at h; subst h; simp [Reps]
  | _ :: _, _, 0, h => h
  | _ :: _, _, n + 1, h => by obtain ⟨v, ws, rfl, h1, h2⟩ := h.uncons; exact Reps.drop n h2
theorem Reps.reverse : ∀ {ds : List D} {vs : List V}, Reps g F ds vs → Reps g F ds.reverse vs.reverse
  | [], _, h => by simp only [Reps] at h; subst h; simp [Reps]
  | _ :: _, _, h => by obtain ⟨v, ws, rfl, h1, h2⟩ := h.uncons; simp only [List.reverse_cons]; exact Reps.append (Reps.reverse h2) (Reps.one h1)
theorem Reps.set {d : D} {v : V} (r : Rep g F d v) : ∀ {ds : List D} {vs : List V} (i : Nat), Reps g F ds vs → Reps g F (ds.set i d) (vs.set i v)
  | [], _, _, h => by simp only [Reps] at h; subst h; simp [Reps]
  | _ :: _, _, 0, h => by obtain ⟨w, ws, rfl, h1, h2⟩ := h.uncons; exact Reps.cons r h2
  | _ :: _, _, i + 1, h => by obtain ⟨w, ws, rfl, h1, h2⟩ := h.uncons; exact Reps.cons h1 (Reps.set r i h2)
theorem Reps.eraseIdx : ∀ {ds : List D} {vs : List V} (i : Nat), Reps g F ds vs → Reps g F (ds.eraseIdx i) (vs.eraseIdx i)
  | [], _, _, h => by simp only [Reps] at h; subst h; simp [Reps]
  | _ :: _, _, 0, h => by obtain ⟨w, ws, rfl, h1, h2⟩ := h.uncons; exact h2
  | _ :: _, _, i + 1, h => by obtain ⟨w, ws, rfl, h1, h2⟩ := h.uncons; exact Reps.cons h1 (Reps.eraseIdx i h2)
theorem Reps.ints : ∀ {ns : List Int} {vs : List V}, Reps g F (ns.map D.int) vs → vs = ns.map V.int
  | [], _, h => by simpa only [List.map_nil, Reps] using h
  | n :: ns, _, h => by obtain ⟨v, ws, rfl, h1, h2⟩ := h.uncons; simp only [Rep] at h1; subst h1; rw [Reps.ints h2]; rfl
theorem Reps.strs : ∀ {ns : List Str} {vs : List V}, Reps g F (ns.map D.str) vs → vs = ns.map V.str ∧ ∀ x ∈ ns, PyData.strOk x = true
  | [], _, h => ⟨by simpa only [List.map_nil, Reps] using h, fun _ h => by simp at h⟩
  | n :: ns, _, h => by
    obtain ⟨v, ws, rfl, h1, h2⟩ := h.uncons
    simp only [Rep] at h1
    obtain ⟨rfl, h1⟩ := h1
    obtain ⟨rfl, h3⟩ := Reps.strs h2
    exact ⟨rfl, fun x hx => by
      rcases List.mem_cons.mp hx with rfl | hx
      · exact h1
      · exact h3 x hx⟩
theorem Reps.bls : ∀ {ns : List Bool} {vs : List V}, Reps g F (ns.map D.bl) vs → vs = ns.map V.bl
  | [], _, h => by simpa only [List.map_nil, Reps] using h
  | n :: ns, _, h => by obtain ⟨v, ws, rfl, h1, h2⟩ := h.uncons; simp only [Rep] at h1; subst h1; rw [Reps.bls h2]; rfl
theorem Reps.of_ints (ns : List Int) : Reps g F (ns.map D.int) (ns.map V.int) := by
  induction ns with
  | nil => exact Reps.nil
  | cons n ns ih => exact Reps.cons (by simp only [Rep]) ih
theorem Reps.of_strs : ∀ (ns : List Str), (∀ x ∈ ns, PyData.strOk x = true) → Reps g F (ns.map D.str) (ns.map V.str)
  | [], _ => Reps.nil
  | n :: ns, h => Reps.cons (by simp only [Rep, true_and]; exact h n List.mem_cons_self) (Reps.of_strs ns fun x hx => h x (List.mem_cons_of_mem _ hx))
theorem Reps.of_bls (ns : List Bool) : Reps g F (ns.map D.bl) (ns.map V.bl) := by
  induction ns with
  | nil => exact Reps.nil
  | cons n ns ih => exact Reps.cons (by simp only [Rep]) ih
end

/-- p holds d; its items lie in F -/
def Cell (g : Gm) (F H : Hp) (p : Addr) : D → Prop
  | .lst ds => ∃ vs, H p = some (.lst vs) ∧ Reps g F ds vs
  | .dk ks ds => ∃ vs, H p = some (.dK (ks.zip vs)) ∧ ks.length = ds.length ∧ Reps g F ds vs
  | .dt ks ds => ∃ vs, H p = some (.dT (ks.zip vs)) ∧ ks.length = ds.length ∧ Reps g F ds vs
  | .ins c ns ds => ∃ dx vs, H p = some (.ins (g.cl c) dx (ns.zip vs)) ∧ ns.length = ds.length ∧ Reps g F ds vs ∧ H dx = some (.own p) ∧ F dx = none
  | _ => False
/-- frozen or a cell -/
def View (g : Gm) (F H : Hp) (d : D) (v : V) : Prop := Rep g F d v ∨ ∃ p, v = .ref p ∧ Cell g F H p d
inductive Kd | fr | ow | le | un
  deriving DecidableEq
inductive Tag | sl (i : Nat) | tm (k : Nat) | st
  deriving DecidableEq

/-- the draws' state -/
inductive DS where
  | dr (ns sc : List Int) (c : Int)
  | tk (ns : List Int) (i c : Int)
def StRel (F H : Hp) (O : Addr → Option Tag) (s : Addr) : DS → Prop
  | .dr ns sc c => ∃ a b, H s = some (.lst [.ref a, .ref b, .int c]) ∧ H a = some (.lst (ns.map V.int)) ∧ F b = some (.lst (sc.map V.int)) ∧ O s = some .st ∧ O a = some .st ∧ a ≠ s
  | .tk ns i c => ∃ a, H s = some (.lst [.ref a, .int i, .int c]) ∧ H a = some (.lst (ns.map V.int)) ∧ O s = some .st ∧ O a = some .st ∧ a ≠ s

inductive Slot where
  | no | th (k : Kd) (d : D) | st
structure M where
  ρ : List Slot
  ds : Option DS
structure Bs where
  F0 : Hp
  H0 : Hp
  S0 : Addr → Prop
  so : Option Addr

/-- what a thing is: at tag t, of kind k -/
def Thing (g : Gm) (b : Bs) (F H : Hp) (O : Addr → Option Tag) (t : Tag) (v : V) : Kd → D → Prop
  | .fr, d => Rep g F d v
  | .ow, d => ∃ p, v = .ref p ∧ O p = some t ∧ Cell g F H p d
  | .le, d => Rep g F d v ∨ ∃ p, v = .ref p ∧ Cell g F H p d ∧ b.H0 p ≠ none ∧ ¬ b.S0 p ∧ (∀ c ns xs, d ≠ .ins c ns xs)
  | .un, _ => True
theorem Thing.view {g : Gm} {b : Bs} {F H : Hp} {O : Addr → Option Tag} {t : Tag} {v : V} {k : Kd} {d : D} (h : Thing g b F H O t v k d) (hk : k ≠ .un) : View g F H d v := by
  cases k with
  | un => exact absurd rfl hk
  | fr => exact .inl h
  | ow => obtain ⟨p, e, _, c⟩ := h; exact .inr ⟨p, e, c⟩
  | le =>
    rcases h with h | ⟨p, e, c, _⟩
    · exact .inl h
    · exact .inr ⟨p, e, c⟩

abbrev Tm := V × Kd × D
structure Ok (g : Gm) (b : Bs) (F : Hp) (O : Addr → Option Tag) (s : Addr) (H : Hp) (m : M) (σ : L2.St) (τ : List Tm) : Prop where
  sub : Sub F H
  off : ∀ p t, O p = some t → F p = none ∧ H p ≠ none
  fsub : Sub b.F0 F
  base : ∀ p o, b.H0 p = some o → ¬ b.S0 p → H p = some o ∧ (b.F0 p = none → F p = none)
  ex : ∀ p, b.H0 p ≠ none → H p ≠ none
  new : ∀ p t, O p = some t → (b.H0 p = none ∨ (t = .st ∧ b.S0 p))
  len : σ.length = m.ρ.length
  slots : ∀ (i : Nat) (k : Kd) (d : D), m.ρ[i]? = some (Slot.th k d) → ∃ v, σ[i]? = some (some v) ∧ Thing g b F H O (.sl i) v k d
  sts : ∀ i : Nat, m.ρ[i]? = some Slot.st → σ[i]? = some (some (V.ref s))
  temps : ∀ (i : Nat) (v : V) (k : Kd) (d : D), τ[i]? = some (v, k, d) → Thing g b F H O (.tm i) v k d
  stt : ∀ x, m.ds = some x → StRel F H O s x
  so : ∀ s0, b.so = some s0 → s = s0
def OK (g : Gm) (b : Bs) (H : Hp) (m : M) (σ : L2.St) (τ : List Tm) : Prop := ∃ F O s, Ok g b F O s H m σ τ

/-- what a call leaves: of the heap (F, H) it makes (F', H') and v -/
structure Ext (F H F' H' : Hp) : Prop where
  f : Sub F F'
  h : Sub H H'
  s : Sub F' H'
  n : ∀ p, H p ≠ none → F p = none → F' p = none
theorem Ext.refl {F H : Hp} (s : Sub F H) : Ext F H F H := ⟨Sub.refl F, Sub.refl H, s, fun _ _ n => n⟩
theorem Ext.has {F H F' H' : Hp} (x : Ext F H F' H') {p : Addr} (h : H p ≠ none) : H' p ≠ none := by
  cases z : H p with
  | none => exact absurd z h
  | some o => rw [x.h p o z]; simp
theorem Ext.trans {F H F1 H1 F2 H2 : Hp} (a : Ext F H F1 H1) (b : Ext F1 H1 F2 H2) : Ext F H F2 H2 :=
  ⟨a.f.trans b.f, a.h.trans b.h, b.s, fun p hp n => b.n p (by
    cases e : H p with
    | none => exact absurd e hp
    | some o => rw [a.h p o e]; simp) (a.n p hp n)⟩
theorem Ext.list {F H : Hp} (s : Sub F H) {p : Addr} (hp : H p = none) (o : HO) : Ext F H F (upd H p o) :=
  ⟨Sub.refl F, Sub.new o hp, s.upd o (by cases e : F p with
    | none => rfl
    | some u => rw [s p u e] at hp; cases hp), fun _ _ n => n⟩
theorem Ext.froz {F H : Hp} (s : Sub F H) {p : Addr} (hp : H p = none) (o : HO) : Ext F H (upd F p o) (upd H p o) :=
  have hf : F p = none := by
    cases e : F p with
    | none => rfl
    | some u => rw [s p u e] at hp; cases hp
  ⟨Sub.new o hf, Sub.new o hp, s.both o, fun q hq n => by
    rw [upd_ne (fun z => hq (by rw [z]; exact hp))]; exact n⟩
/-- the result of kind k -/
def Made (g : Gm) (F H F' H' : Hp) (v : V) : Kd → D → Prop
  | .fr, d => Rep g F' d v
  | .ow, d => ∃ p, v = .ref p ∧ H p = none ∧ F' p = none ∧ Cell g F' H' p d
  | .le, _ => False
  | .un, _ => False
theorem Cell.mono {g : Gm} {F F' H H' : Hp} {p : Addr} {d : D} (h : Cell g F H p d) (f : Sub F F') (hh : ∀ o, H p = some o → H' p = some o) (ho : ∀ dx, H dx = some (.own p) → F dx = none → H' dx = some (.own p) ∧ F' dx = none) : Cell g F' H' p d := by
  cases d with
  | lst ds => obtain ⟨vs, a, r⟩ := h; exact ⟨vs, hh _ a, r.mono f⟩
  | dk ks ds => obtain ⟨vs, a, l, r⟩ := h; exact ⟨vs, hh _ a, l, r.mono f⟩
  | dt ks ds => obtain ⟨vs, a, l, r⟩ := h; exact ⟨vs, hh _ a, l, r.mono f⟩
  | ins c ns ds => obtain ⟨dx, vs, a, l, r, o, n⟩ := h; exact ⟨dx, vs, hh _ a, l, r.mono f, (ho dx o n).1, (ho dx o n).2⟩
  | non => exact h.elim
  | bl => exact h.elim
  | int => exact h.elim
  | str => exact h.elim
  | tup => exact h.elim
theorem Cell.ext {g : Gm} {F F' H H' : Hp} {p : Addr} {d : D} (h : Cell g F H p d) (x : Ext F H F' H') : Cell g F' H' p d :=
  h.mono x.f (fun o e => x.h p o e) fun dx e n => ⟨x.h _ _ e, x.n dx (by rw [e]; simp) n⟩
theorem Cell.has {g : Gm} {F H : Hp} {p : Addr} {d : D} (h : Cell g F H p d) : H p ≠ none := by
  cases d with
  | lst ds => obtain ⟨vs, a, r⟩ := h; rw [a]; simp
  | dk ks ds => obtain ⟨vs, a, l, r⟩ := h; rw [a]; simp
  | dt ks ds => obtain ⟨vs, a, l, r⟩ := h; rw [a]; simp
  | ins c ns ds => obtain ⟨dx, vs, a, _⟩ := h; rw [a]; simp
  | non => exact h.elim
  | bl => exact h.elim
  | int => exact h.elim
  | str => exact h.elim
  | tup => exact h.elim
theorem Thing.ext {g : Gm} {b : Bs} {F F' H H' : Hp} {O O' : Addr → Option Tag} {t : Tag} {v : V} {k : Kd} {d : D} (h : Thing g b F H O t v k d) (x : Ext F H F' H') (o : ∀ p, H p ≠ none → O p = some t → O' p = some t) : Thing g b F' H' O' t v k d := by
  cases k with
  | un => trivial
  | fr => exact Rep.mono x.f h
  | ow => obtain ⟨p, e, t, c⟩ := h; exact ⟨p, e, o p c.has t, c.ext x⟩
  | le =>
    rcases h with h | ⟨p, e, c, r⟩
    · exact .inl (Rep.mono x.f h)
    · exact .inr ⟨p, e, c.ext x, r⟩
theorem StRel.ext {F F' H H' : Hp} {O O' : Addr → Option Tag} {s : Addr} {x : DS} (h : StRel F H O s x) (e : Ext F H F' H') (o : ∀ p, H p ≠ none → O p = some .st → O' p = some .st) : StRel F' H' O' s x := by
  cases x with
  | dr ns sc c => obtain ⟨a, b, h1, h2, h3, h4, h5, h6⟩ := h; exact ⟨a, b, e.h _ _ h1, e.h _ _ h2, e.f _ _ h3, o _ (by rw [h1]; simp) h4, o _ (by rw [h2]; simp) h5, h6⟩
  | tk ns i c => obtain ⟨a, h1, h2, h4, h5, h6⟩ := h; exact ⟨a, e.h _ _ h1, e.h _ _ h2, o _ (by rw [h1]; simp) h4, o _ (by rw [h2]; simp) h5, h6⟩

section
variable {g : Gm} {b : Bs} {F F' H H' : Hp} {O : Addr → Option Tag} {s : Addr} {m : M} {σ : L2.St} {τ ops : List Tm}
/-- forgetting the last temporaries -/
theorem Ok.pre (h : Ok g b F O s H m σ (τ ++ ops)) : Ok g b F O s H m σ τ :=
  ⟨h.sub, h.off, h.fsub, h.base, h.ex, h.new, h.len, h.slots, h.sts, fun i v k d e => h.temps i v k d (by
    rw [List.getElem?_append_left (by
      rcases Nat.lt_or_ge i τ.length with q | q
      · exact q
      · rw [List.getElem?_eq_none q] at e; cases e)]; exact e), h.stt, h.so⟩
/-- a step that keeps or makes; O' tells the new cells -/
theorem Ok.step {O' : Addr → Option Tag} (h : Ok g b F O s H m σ τ) (x : Ext F H F' H') (ho : ∀ p, H p ≠ none → O' p = O p) (hn : ∀ p t, H p = none → O' p = some t → F' p = none ∧ H' p ≠ none) : Ok g b F' O' s H' m σ τ := by
  have hok : ∀ p (t : Tag), H p ≠ none → O p = some t → O' p = some t := fun p t a c => by rw [ho p a]; exact c
  refine ⟨x.s, fun p t e => ?_, h.fsub.trans x.f, fun p o e ns => ?_, fun p e => ?_, fun p t e => ?_, h.len, fun i k d e => ?_, h.sts, fun i w k' d' e => ?_, fun y e => (h.stt y e).ext x fun p a c => hok p _ a c, h.so⟩
  · by_cases z : H p = none
    · exact hn p t z e
    · rw [ho p z] at e
      obtain ⟨a, c⟩ := h.off p t e
      exact ⟨x.n p c a, x.has z⟩
  · obtain ⟨a, c⟩ := h.base p o e ns
    exact ⟨x.h _ _ a, fun z => x.n p (by rw [a]; simp) (c z)⟩
  · exact x.has (h.ex p e)
  · by_cases z : H p = none
    · refine .inl ?_
      cases w : b.H0 p with
      | none => rfl
      | some o => exact absurd z (h.ex p (by rw [w]; simp))
    · rw [ho p z] at e
      exact h.new p t e
  · obtain ⟨w, e1, t1⟩ := h.slots i k d e
    exact ⟨w, e1, t1.ext x fun p a c => hok p _ a c⟩
  · exact (h.temps i w k' d' e).ext x fun p a c => hok p _ a c
theorem get_app {α : Type} {τ : List α} {x y : α} {i : Nat} (e : (τ ++ [x])[i]? = some y) : (i < τ.length ∧ τ[i]? = some y) ∨ (i = τ.length ∧ y = x) := by
  by_cases hi : i < τ.length
  · rw [List.getElem?_append_left hi] at e
    exact .inl ⟨hi, e⟩
  · rw [List.getElem?_append_right (Nat.le_of_not_lt hi)] at e
    cases hj : i - τ.length with
    | zero =>
      rw [hj] at e
      exact .inr ⟨by omega, (Option.some.inj (by simpa using e)).symm⟩
    | succ n => rw [hj] at e; simp at e
/-- one more temporary -/
theorem Ok.push (h : Ok g b F O s H m σ τ) {v : V} {k : Kd} {d : D} (t : Thing g b F H O (.tm τ.length) v k d) : Ok g b F O s H m σ (τ ++ [(v, k, d)]) :=
  ⟨h.sub, h.off, h.fsub, h.base, h.ex, h.new, h.len, h.slots, h.sts, fun i w k' d' e => by
    rcases get_app e with ⟨_, q⟩ | ⟨q, z⟩
    · exact h.temps i w k' d' q
    · cases z; subst q; exact t, h.stt, h.so⟩
/-- something is made; the temporaries ahead stay -/
theorem Ok.made (h : Ok g b F O s H m σ τ) (x : Ext F H F' H') {v : V} {k : Kd} {d : D} (r : Made g F H F' H' v k d) : ∃ O', Ok g b F' O' s H' m σ (τ ++ [(v, k, d)]) := by
  cases k with
  | le => exact r.elim
  | un => exact r.elim
  | fr => exact ⟨O, (h.step x (fun _ _ => rfl) fun p t z e => absurd z (h.off p t e).2).push r⟩
  | ow =>
    obtain ⟨p, e, hp, hf, c⟩ := r
    refine ⟨fun q => if q = p then some (.tm τ.length) else O q, (h.step x (fun q z => ?_) fun q t z e => ?_).push ⟨p, e, ?_, c⟩⟩
    · exact if_neg fun y => z (by rw [y]; exact hp)
    · by_cases y : q = p
      · subst y; exact ⟨hf, c.has⟩
      · have e' : O q = some t := by simpa [if_neg y] using e
        exact absurd z (h.off q t e').2
    · exact if_pos rfl
end
end VI

set_option Elab.async false
set_option linter.all false
set_option maxRecDepth 100000
namespace VI
open PySem PySem.Spec PyProof.Rows L2

section
variable {g : Gm} {b : Bs} {F F' H H' : Hp} {O : Addr → Option Tag} {s : Addr} {m : M} {σ : L2.St} {τ ops : List Tm}

/-- what stands in a cell, frozen -/
theorem Cell.rep {p : Addr} {d : D} (sub : Sub F H) (hf : F p = none) (h : Cell g F H p d) : ∃ o, H p = some o ∧ (∀ x, o ≠ .own x) ∧ Rep g (upd F p o) d (.ref p) := by
  cases d with
  | lst ds => obtain ⟨vs, a, r⟩ := h; exact ⟨_, a, (fun x z => by cases z), (by simp only [Rep]; exact ⟨p, vs, rfl, upd_same, r.mono (Sub.new _ hf)⟩)⟩
  | dk ks ds => obtain ⟨vs, a, l, r⟩ := h; exact ⟨_, a, (fun x z => by cases z), (by simp only [Rep]; exact ⟨p, vs, rfl, upd_same, l, r.mono (Sub.new _ hf)⟩)⟩
  | dt ks ds => obtain ⟨vs, a, l, r⟩ := h; exact ⟨_, a, (fun x z => by cases z), (by simp only [Rep]; exact ⟨p, vs, rfl, upd_same, l, r.mono (Sub.new _ hf)⟩)⟩
  | ins c ns ds => obtain ⟨dx, vs, a, l, r, _⟩ := h; exact ⟨_, a, (fun x z => by cases z), (by simp only [Rep]; exact ⟨p, dx, vs, rfl, upd_same, l, r.mono (Sub.new _ hf)⟩)⟩
  | non => exact h.elim
  | bl => exact h.elim
  | int => exact h.elim
  | str => exact h.elim
  | tup => exact h.elim

/-- a cell's content goes to F: all but the thing at its tag stays -/
theorem Thing.froz {t t' : Tag} {p : Addr} {o : HO} {v : V} {k : Kd} {d : D} (ho : H p = some o) (no : ∀ x, o ≠ .own x) (hf : F p = none) (hp : O p = some t) (ht : t' ≠ t) (nw : b.H0 p = none) (h : Thing g b F H O t' v k d) :
    Thing g b (upd F p o) H (fun q => if q = p then none else O q) t' v k d := by
  have cellm : ∀ q, q ≠ p → Cell g F H q d → Cell g (upd F p o) H q d := fun q hq c => c.mono (Sub.new o hf) (fun u e => e) fun dx e n => ⟨e, by
    by_cases y : dx = p
    · exfalso
      subst y
      rw [e] at ho
      exact no _ (Option.some.inj ho).symm
    · rw [upd_ne y]; exact n⟩
  cases k with
  | un => trivial
  | fr => exact Rep.mono (Sub.new o hf) h
  | ow =>
    obtain ⟨q, e, q1, c⟩ := h
    have hq : q ≠ p := fun y => ht (by rw [y, hp] at q1; exact (Option.some.inj q1).symm)
    exact ⟨q, e, by show (if q = p then none else O q) = _; rw [if_neg hq]; exact q1, cellm q hq c⟩
  | le =>
    rcases h with h | ⟨q, e, c, n1, n2, n3⟩
    · exact .inl (Rep.mono (Sub.new o hf) h)
    · have hq : q ≠ p := fun y => n1 (by rw [y]; exact nw)
      exact .inr ⟨q, e, cellm q hq c, n1, n2, n3⟩
theorem StRel.froz {t : Tag} {p : Addr} {o : HO} {x : DS} (hf : F p = none) (hp : O p = some t) (ht : t ≠ .st) (h : StRel F H O s x) : StRel (upd F p o) H (fun q => if q = p then none else O q) s x := by
  have no : ∀ q, O q = some .st → (if q = p then none else O q) = some Tag.st := fun q e => by
    rw [if_neg (fun y => ht (by rw [y, hp] at e; exact Option.some.inj e))]; exact e
  cases x with
  | dr ns sc c => obtain ⟨a, b, h1, h2, h3, h4, h5, h6⟩ := h; exact ⟨a, b, h1, h2, (Sub.new o hf) _ _ h3, no _ h4, no _ h5, h6⟩
  | tk ns i c => obtain ⟨a, h1, h2, h4, h5, h6⟩ := h; exact ⟨a, h1, h2, no _ h4, no _ h5, h6⟩
/-- the last temporary is frozen -/
theorem Ok.frz {v : V} {d : D} (h : Ok g b F O s H m σ (τ ++ [(v, .ow, d)])) : ∃ F' O', Ok g b F' O' s H m σ (τ ++ [(v, .fr, d)]) := by
  obtain ⟨p, rfl, hp, c⟩ := h.temps τ.length v .ow d (by simp)
  obtain ⟨hf, _⟩ := h.off p _ hp
  obtain ⟨o, ho, no, r⟩ := c.rep h.sub hf
  have nw : b.H0 p = none := by
    rcases h.new p _ hp with q | ⟨q, _⟩
    · exact q
    · cases q
  have h0 := h.pre
  refine ⟨upd F p o, fun q => if q = p then none else O q, ?_⟩
  refine ⟨fun q u e => ?_, fun q t e => ?_, h.fsub.trans (Sub.new o hf), fun q u e ns => ?_, h.ex, fun q t e => ?_, h.len, fun i k d' e => ?_, h.sts, fun i w k d' e => ?_, fun x e => (h.stt x e).froz hf hp (by intro z; cases z), h.so⟩
  · by_cases y : q = p
    · subst y; rw [upd_same] at e; cases e; exact ho
    · rw [upd_ne y] at e; exact h.sub q u e
  · by_cases y : q = p
    · subst y; simp at e
    · simp only [if_neg y] at e; rw [upd_ne y]; exact h.off q t e
  · obtain ⟨a, c⟩ := h.base q u e ns
    exact ⟨a, fun z => by rw [upd_ne (fun y => by rw [y, nw] at e; cases e)]; exact c z⟩
  · by_cases y : q = p
    · subst y; simp at e
    · simp only [if_neg y] at e; exact h.new q t e
  · obtain ⟨w, e1, t1⟩ := h.slots i k d' e
    exact ⟨w, e1, t1.froz ho no hf hp (by intro z; cases z) nw⟩
  · rcases get_app e with ⟨hi, q⟩ | ⟨q, z⟩
    · exact (h0.temps i w k d' q).froz ho no hf hp (by intro z; cases z; exact Nat.lt_irrefl _ hi) nw
    · cases z; exact r
def M.put (m : M) (i : Nat) (x : Slot) : M := { m with ρ := m.ρ.set i x }
theorem M.get_put {m : M} {i j : Nat} {x : Slot} {y : Slot} (h : (m.put i x).ρ[j]? = some y) : (j = i ∧ i < m.ρ.length ∧ y = x) ∨ (j ≠ i ∧ m.ρ[j]? = some y) := by
  simp only [M.put, List.getElem?_set] at h
  by_cases e : i = j
  · subst e
    rw [if_pos rfl] at h
    by_cases l : i < m.ρ.length
    · rw [if_pos l] at h; exact .inl ⟨rfl, l, (Option.some.inj h).symm⟩
    · rw [if_neg l] at h; cases h
  · rw [if_neg e] at h; exact .inr ⟨fun y => e y.symm, h⟩
/-- a slot's own thing is frozen -/
theorem Ok.frzS {i : Nat} {d : D} (h : Ok g b F O s H m σ τ) (hi : m.ρ[i]? = some (Slot.th .ow d)) : ∃ F' O', Ok g b F' O' s H (m.put i (.th .fr d)) σ τ := by
  obtain ⟨v, hv, p, rfl, hp, c⟩ := h.slots i .ow d hi
  obtain ⟨hf, _⟩ := h.off p _ hp
  obtain ⟨o, ho, no, r⟩ := c.rep h.sub hf
  have nw : b.H0 p = none := by
    rcases h.new p _ hp with q | ⟨q, _⟩
    · exact q
    · cases q
  refine ⟨upd F p o, fun q => if q = p then none else O q, ?_⟩
  refine ⟨fun q u e => ?_, fun q t e => ?_, h.fsub.trans (Sub.new o hf), fun q u e ns => ?_, h.ex, fun q t e => ?_, by simpa [M.put] using h.len, fun j k d' e => ?_, fun j e => ?_, fun j w k d' e => (h.temps j w k d' e).froz ho no hf hp (by intro z; cases z) nw, fun x e => (h.stt x e).froz hf hp (by intro z; cases z), h.so⟩
  · by_cases y : q = p
    · subst y; rw [upd_same] at e; cases e; exact ho
    · rw [upd_ne y] at e; exact h.sub q u e
  · by_cases y : q = p
    · subst y; simp at e
    · simp only [if_neg y] at e; rw [upd_ne y]; exact h.off q t e
  · obtain ⟨a, c⟩ := h.base q u e ns
    exact ⟨a, fun z => by rw [upd_ne (fun y => by rw [y, nw] at e; cases e)]; exact c z⟩
  · by_cases y : q = p
    · subst y; simp at e
    · simp only [if_neg y] at e; exact h.new q t e
  · rcases M.get_put e with ⟨rfl, _, z⟩ | ⟨hj, q⟩
    · cases z; exact ⟨_, hv, r⟩
    · obtain ⟨w, e1, t1⟩ := h.slots j k d' q
      exact ⟨w, e1, t1.froz ho no hf hp (by intro z; cases z; exact hj rfl) nw⟩
  · rcases M.get_put e with ⟨rfl, _, z⟩ | ⟨hj, q⟩
    · cases z
    · exact h.sts j q
/-- the last temporary is stored -/
theorem Ok.store {i : Nat} {v : V} {k : Kd} {d : D} (h : Ok g b F O s H m σ (τ ++ [(v, k, d)])) (hk : k ≠ .le) (hi : i < m.ρ.length) : ∃ O', Ok g b F O' s H (m.put i (.th k d)) (σ.set i (some v)) τ := by
  have ht := h.temps τ.length v k d (by simp)
  have h0 := h.pre
  have key : ∀ O' : Addr → Option Tag, (∀ p t, O' p = some t → ∃ t', O p = some t' ∧ (t = .st → t' = .st) ∧ (t' = .st → t = .st)) → (∀ p t, O p = some t → t ≠ .tm τ.length → O' p = some t) → Thing g b F H O' (.sl i) v k d →
      Ok g b F O' s H (m.put i (.th k d)) (σ.set i (some v)) τ := fun O' h1 h2 h3 => by
    have hth : ∀ t w k' d', t ≠ .tm τ.length → Thing g b F H O t w k' d' → Thing g b F H O' t w k' d' := fun t w k' d' hne x => by
      cases k' with
      | un => trivial
      | fr => exact x
      | ow => obtain ⟨p, e, o, c⟩ := x; exact ⟨p, e, h2 p t o hne, c⟩
      | le => exact x
    refine ⟨h.sub, fun p t e => ?_, h.fsub, h.base, h.ex, fun p t e => ?_, by simpa [M.put] using h.len, fun j k' d' e => ?_, fun j e => ?_, fun j w k' d' e => ?_, fun x e => ?_, h.so⟩
    · obtain ⟨t', e', _⟩ := h1 p t e; exact h.off p t' e'
    · obtain ⟨t', e', a, c⟩ := h1 p t e
      rcases h.new p t' e' with q | ⟨q, q'⟩
      · exact .inl q
      · exact .inr ⟨c q, q'⟩
    · rcases M.get_put e with ⟨rfl, _, z⟩ | ⟨hj, q⟩
      · cases z
        exact ⟨v, by rw [List.getElem?_set_self (by rw [h.len]; exact hi)], h3⟩
      · obtain ⟨w, e1, t1⟩ := h.slots j k' d' q
        exact ⟨w, by rw [List.getElem?_set_ne (fun y => hj y.symm)]; exact e1, hth _ _ _ _ (by intro z; cases z) t1⟩
    · rcases M.get_put e with ⟨rfl, _, z⟩ | ⟨hj, q⟩
      · cases z
      · rw [List.getElem?_set_ne (fun y => hj y.symm)]; exact h.sts j q
    · refine hth _ _ _ _ (fun z => ?_) (h0.temps j w k' d' e)
      cases z
      rw [List.getElem?_eq_none (Nat.le_refl _)] at e; cases e
    · have z := h.stt x e
      cases x with
      | dr ns sc c => obtain ⟨a, b, q1, q2, q3, q4, q5, q6⟩ := z; exact ⟨a, b, q1, q2, q3, h2 _ _ q4 (fun z => nomatch z), h2 _ _ q5 (fun z => nomatch z), q6⟩
      | tk ns i c => obtain ⟨a, q1, q2, q4, q5, q6⟩ := z; exact ⟨a, q1, q2, h2 _ _ q4 (fun z => nomatch z), h2 _ _ q5 (fun z => nomatch z), q6⟩
  cases k with
  | le => exact absurd rfl hk
  | un => exact ⟨O, key O (fun p t e => ⟨t, e, id, id⟩) (fun p t e _ => e) trivial⟩
  | fr => exact ⟨O, key O (fun p t e => ⟨t, e, id, id⟩) (fun p t e _ => e) ht⟩
  | ow =>
    obtain ⟨p, e, o, c⟩ := ht
    refine ⟨fun q => if q = p then some (.sl i) else O q, key _ (fun q t z => ?_) (fun q t z hne => ?_) ⟨p, e, if_pos rfl, c⟩⟩
    · by_cases y : q = p
      · subst y
        simp only [if_true, Option.some.injEq] at z
        subst z
        exact ⟨_, o, (fun z => nomatch z), (fun z => nomatch z)⟩
      · simp only [if_neg y] at z; exact ⟨t, z, id, id⟩
    · by_cases y : q = p
      · subst y; rw [o] at z; exact absurd (Option.some.inj z).symm hne
      · show (if q = p then _ else O q) = _; rw [if_neg y]; exact z
/-- slots are forgotten -/
theorem Ok.weak {m' : M} {σ' : L2.St} (h : Ok g b F O s H m σ τ) (hd : m'.ds = m.ds) (hl : σ'.length = m'.ρ.length)
    (hs : ∀ (i : Nat) (x : Slot), m'.ρ[i]? = some x → x = .no ∨ (m.ρ[i]? = some x ∧ σ'[i]? = σ[i]?)) : Ok g b F O s H m' σ' τ :=
  ⟨h.sub, h.off, h.fsub, h.base, h.ex, h.new, hl, fun i k d e => by
    rcases hs i _ e with q | ⟨q, z⟩
    · cases q
    · rw [z]; exact h.slots i k d q, fun i e => by
    rcases hs i _ e with q | ⟨q, z⟩
    · cases q
    · rw [z]; exact h.sts i q, h.temps, fun x e => h.stt x (by rw [← hd]; exact e), h.so⟩
/-- a slot's own cell is written -/
theorem Ok.write {i : Nat} {d d' : D} {p : Addr} {o : HO} (h : Ok g b F O s H m σ τ) (hi : m.ρ[i]? = some (Slot.th .ow d)) (hv : σ[i]? = some (some (.ref p))) (hc : Cell g F (upd H p o) p d') (hn : ∀ x, H p ≠ some (.own x)) (no : ∀ x, o ≠ .own x) :
    Ok g b F O s (upd H p o) (m.put i (.th .ow d')) σ τ := by
  obtain ⟨v, hv', q, rfl, hp, c⟩ := h.slots i .ow d hi
  rw [hv] at hv'
  cases hv'
  obtain ⟨hf, _⟩ := h.off p _ hp
  have nw : b.H0 p = none := by
    rcases h.new p _ hp with q | ⟨q, _⟩
    · exact q
    · cases q
  have cellm : ∀ q d, q ≠ p → Cell g F H q d → Cell g F (upd H p o) q d := fun q d hq c => c.mono (Sub.refl F) (fun u e => by rw [upd_ne hq]; exact e) fun dx e n => ⟨by
    rw [upd_ne (fun y => hn q (by rw [← y]; exact e))]; exact e, n⟩
  have hth : ∀ t w k' d', t ≠ .sl i → Thing g b F H O t w k' d' → Thing g b F (upd H p o) O t w k' d' := fun t w k' d' hne x => by
    cases k' with
    | un => trivial
    | fr => exact x
    | ow =>
      obtain ⟨q, e, z, c⟩ := x
      exact ⟨q, e, z, cellm q _ (fun y => hne (by rw [y, hp] at z; exact (Option.some.inj z).symm)) c⟩
    | le =>
      rcases x with x | ⟨q, e, c, n1, n2⟩
      · exact .inl x
      · exact .inr ⟨q, e, cellm q _ (fun y => n1 (by rw [y]; exact nw)) c, n1, n2⟩
  refine ⟨h.sub.upd o hf, fun q t e => ?_, h.fsub, fun q u e ns => ?_, fun q e => ?_, h.new, by simpa [M.put] using h.len, fun j k' d' e => ?_, fun j e => ?_, fun j w k' d' e => hth _ _ _ _ (by intro z; cases z) (h.temps j w k' d' e), fun x e => ?_, h.so⟩
  · obtain ⟨a, c⟩ := h.off q t e
    refine ⟨a, ?_⟩
    by_cases y : q = p
    · subst y; rw [upd_same]; simp
    · rw [upd_ne y]; exact c
  · obtain ⟨a, c⟩ := h.base q u e ns
    exact ⟨by rw [upd_ne (fun y => by rw [y, nw] at e; cases e)]; exact a, c⟩
  · rw [upd_ne (fun y => e (by rw [y]; exact nw))]; exact h.ex q e
  · rcases M.get_put e with ⟨rfl, _, z⟩ | ⟨hj, q⟩
    · cases z; exact ⟨_, hv, p, rfl, hp, hc⟩
    · obtain ⟨w, e1, t1⟩ := h.slots j k' d' q
      exact ⟨w, e1, hth _ _ _ _ (by intro z; cases z; exact hj rfl) t1⟩
  · rcases M.get_put e with ⟨rfl, _, z⟩ | ⟨hj, q⟩
    · cases z
    · exact h.sts j q
  · have z := h.stt x e
    have ne : ∀ q, O q = some Tag.st → q ≠ p := fun q z y => by rw [y, hp] at z; cases z
    cases x with
    | dr ns sc c => obtain ⟨a, b, q1, q2, q3, q4, q5, q6⟩ := z; exact ⟨a, b, by rw [upd_ne (ne _ q4)]; exact q1, by rw [upd_ne (ne _ q5)]; exact q2, q3, q4, q5, q6⟩
    | tk ns i c => obtain ⟨a, q1, q2, q4, q5, q6⟩ := z; exact ⟨a, by rw [upd_ne (ne _ q4)]; exact q1, by rw [upd_ne (ne _ q5)]; exact q2, q4, q5, q6⟩
end
end VI

set_option Elab.async false
set_option linter.all false
set_option maxRecDepth 100000
namespace VI
open PySem PySem.Spec PyProof.Rows L2

/-! ### the language -/
inductive C where
  | non | bl (b : Bool) | int (i : Int) | str (s : Str)
def C.v : C → V
  | .non => .non | .bl b => .bl b | .int i => .int i | .str s => .str s
def C.d : C → D
  | .non => .non | .bl b => .bl b | .int i => .int i | .str s => .str s
def C.ok : C → Bool
  | .str s => PyData.strOk s
  | _ => true
inductive Op where
  | add | sub | mul | fdv | mod | pow | neg
  | eq | ne | lt | le | gt | ge | isin | nin | isN | notN
  | ix | rev
  | len | abs | int | str | list | tuple | max2 | all | any
  | isT (t : String)
  | mkl | mkt
/-- do the operands go into what is made -/
def Op.vm : Op → Bool
  | .mkl | .mkt => true
  | _ => false
/-- a comparison (its test is its own truth) -/
def Op.cmp : Op → Bool
  | .eq | .ne | .lt | .le | .gt | .ge | .isin | .nin | .isN | .notN => true
  | _ => false
/-- what stands behind the written operands -/
def Op.tail : Op → List V
  | .isT t => [.ty t]
  | _ => []
/-- methods of texts, lists, dicts that change nothing -/
inductive Bm where
  | join
/-- methods that change their list -/
inductive Mm where
  | append | popAt | pop | clear
inductive Tgt where
  | nm (i : Nat) | tp (is : List Nat)
inductive Itk where
  | seq | rng | str
inductive E where
  | var (i : Nat)
  | cst (c : C)
  | op (o : Op) (es : List E)
  | slcL (e lo : E) | slcH (e hi : E) | slcB (e lo hi : E)
  | bm (m : Bm) (o : E) (es : List E)
  | mut (m : Mm) (i : Nat) (es : List E)
  | andE (a b : E) | orE (a b : E) | notE (a : E)
  | ite (c a b : E)
  | call (f : Nat) (es : List E)
  | lc (k : Itk) (ie : E) (tg : Tgt) (cond : List E) (elt : E) (vs : List Nat)

/-! ### what it means -/
inductive Rs (α : Type) where
  | no
  | ex (c : Str) (d : D) (m : M)
  | ok (a : α) (m : M)
def Rs.bind {α β : Type} : Rs α → (α → M → Rs β) → Rs β
  | .no, _ => .no
  | .ex c d m, _ => .ex c d m
  | .ok a m, f => f a m
inductive Opn where
  | tmp (k : Kd) (d : D)
  | bor (i : Nat)
def Opn.d (m : M) : Opn → Option D
  | .tmp _ d => some d
  | .bor i => match m.ρ[i]? with
    | some (.th .ow d) => some d
    | some (.th .le d) => some d
    | some (.th .fr d) => some d
    | _ => none
def resO (m : M) : List Opn → Option (List D)
  | [] => some []
  | x :: xs => match x.d m, resO m xs with
    | some d, some ds => some (d :: ds)
    | _, _ => none

/-- parameters: a value, a list that is only read, the draws' state -/
inductive Pm where
  | vl | le | st
inductive FRes where
  | ret (k : Kd) (d : D)
  | exc (c : Str) (d : D)
structure Fn where
  ps : List Pm
  sem : List D → Option DS → Option (FRes × Option DS)
def hasStP : List Pm → Bool
  | [] => false
  | .st :: _ => true
  | _ :: ps => hasStP ps
def Fn.hasSt (f : Fn) : Bool := hasStP f.ps

/-! operations on data -/
def eqStr (x y : Str) : Bool := x.cps == y.cps
mutual
def D.py : D → Option PyData
  | .non => some .none
  | .bl b => some (.bool b)
  | .int i => some (.int i)
  | .str s => some (.str s)
  | .tup xs => (D.pys xs).map .tuple
  | .lst xs => (D.pys xs).map .list
  | _ => none
def D.pys : List D → Option (List PyData)
  | [] => some []
  | d :: ds => match D.py d, D.pys ds with
    | some x, some xs => some (x :: xs)
    | _, _ => none
end
/-- == where both are data at most sixty deep -/
def eqD (a b : D) : Option Bool := match D.py a, D.py b with
  | some x, some y => if x.depth ≤ 60 ∧ y.depth ≤ 60 then some (PyData.eqv x y) else none
  | _, _ => none
def trD : D → Option Bool
  | .non => some false
  | .bl b => some b
  | .int i => some (i != 0)
  | .str s => if s.length ≤ 1000000 then some ((s.length : Int) != 0) else none
  | .tup xs => some (!xs.isEmpty)
  | .lst xs => some (!xs.isEmpty)
  | .dk ks _ => some (!ks.isEmpty)
  | _ => none
def bsD : List D → Option (List Bool)
  | [] => some []
  | .bl b :: ds => (bsD ds).map (b :: ·)
  | _ => none
def strsD : List D → Option (List Str)
  | [] => some []
  | .str s :: ds => (strsD ds).map (s :: ·)
  | _ => none
def lim : Nat := 1000000
def cutD (xs : List D) (lo hi : Option Int) : List D := (xs.drop (HT.sIx xs.length 0 lo)).take (HT.sIx xs.length xs.length hi - HT.sIx xs.length 0 lo)

def tyD : D → String
  | .non => "NoneType" | .bl _ => "bool" | .int _ => "int" | .str _ => "str" | .tup _ => "tuple" | .lst _ => "list" | .dk _ _ => "dict" | .dt _ _ => "dict" | .ins _ _ _ => ""
def isTD (t : String) (d : D) : Option Bool := match d with
  | .ins _ _ _ => none
  | _ => kitB (tyD d) t

/-- an operation; what comes is of that kind -/
def opD : Op → List D → Option (Kd × D)
  | .add, [.int i, .int j] => some (.fr, .int (i + j))
  | .add, [.str x, .str y] => if x.length + y.length ≤ lim then some (.fr, .str (x ++ y)) else none
  | .add, [.lst xs, .lst ys] => if xs.length + ys.length ≤ lim then some (.ow, .lst (xs ++ ys)) else none
  | .add, [.tup xs, .tup ys] => if xs.length + ys.length ≤ lim then some (.fr, .tup (xs ++ ys)) else none
  | .sub, [.int i, .int j] => some (.fr, .int (i - j))
  | .mul, [.int i, .int j] => if i.natAbs.log2 + j.natAbs.log2 < 1000000 then some (.fr, .int (i * j)) else none
  | .mul, [.lst xs, .int k] => if 0 ≤ k ∧ k ≤ 1000 ∧ xs.length ≤ 1000 then some (.ow, .lst (List.replicate k.toNat xs).flatten) else none
  | .fdv, [.int i, .int j] => if 0 < j ∧ j.natAbs.log2 < 9000 then some (.fr, .int (i / j)) else none
  | .mod, [.int i, .int j] => if 0 < j then some (.fr, .int (i % j)) else none
  | .pow, [.int i, .int j] => if 0 ≤ j ∧ j ≤ 1000000 ∧ i.natAbs < 2 ^ 64 then some (.fr, .int (i ^ j.toNat)) else none
  | .neg, [.int i] => some (.fr, .int (-i))
  | .eq, [a, b] => (eqD a b).map fun c => (.fr, .bl c)
  | .ne, [a, b] => (eqD a b).map fun c => (.fr, .bl (!c))
  | .lt, [.int i, .int j] => some (.fr, .bl (decide (i < j)))
  | .le, [.int i, .int j] => some (.fr, .bl (decide (i ≤ j)))
  | .gt, [.int i, .int j] => some (.fr, .bl (decide (j < i)))
  | .ge, [.int i, .int j] => some (.fr, .bl (decide (j ≤ i)))
  | .lt, [.str i, .str j] => some (.fr, .bl (decide (i.cps.toList < j.cps.toList)))
  | .isin, [.str x, .str z] => match x.cps.toList with
    | [c] => some (.fr, .bl (decide (c ∈ z.cps.toList)))
    | _ => none
  | .nin, [.str x, .str z] => match x.cps.toList with
    | [c] => some (.fr, .bl (!decide (c ∈ z.cps.toList)))
    | _ => none
  | .isN, [.ins _ _ _, .non] => some (.fr, .bl false)
  | .isN, [d, .non] => some (.fr, .bl (match d with | .non => true | _ => false))
  | .notN, [d, .non] => some (.fr, .bl (match d with | .non => false | _ => true))
  | .ix, [.str s, .int i] => if s.length ≤ lim then (atI s.cps.toList i).map fun c => (.fr, .str ⟨#[c]⟩) else none
  | .ix, [.lst xs, .int i] => (atI xs i).map fun d => (.fr, d)
  | .ix, [.tup xs, .int i] => (atI xs i).map fun d => (.fr, d)
  | .rev, [.lst xs] => some (.ow, .lst xs.reverse)
  | .rev, [.str s] => if s.length ≤ lim then some (.fr, .str ⟨s.cps.toList.reverse.toArray⟩) else none
  | .len, [.str s] => if s.length ≤ lim then some (.fr, .int s.length) else none
  | .len, [.lst xs] => some (.fr, .int xs.length)
  | .len, [.tup xs] => some (.fr, .int xs.length)
  | .abs, [.int i] => some (.fr, .int (if i < 0 then -i else i))
  | .int, [.int i] => some (.fr, .int i)
  | .int, [.bl k] => some (.fr, .int (if k then 1 else 0))
  | .list, [.lst xs] => some (.ow, .lst xs)
  | .list, [.tup xs] => some (.ow, .lst xs)
  | .tuple, [.lst xs] => some (.fr, .tup xs)
  | .tuple, [.tup xs] => some (.fr, .tup xs)
  | .max2, [.int i, .int j] => some (.fr, .int (if j > i then j else i))
  | .all, [.lst xs] => (bsD xs).map fun bs => (.fr, .bl (bs.all id))
  | .any, [.lst xs] => (bsD xs).map fun bs => (.fr, .bl (bs.any id))
  | .isT t, [d] => (isTD t d).map fun c => (.fr, .bl c)
  | .mkl, ds => if ds.length ≤ lim then some (.ow, .lst ds) else none
  | .mkt, ds => if ds.length ≤ lim then some (.fr, .tup ds) else none
  | _, _ => none
def bmD : Bm → D → List D → Option (Kd × D)
  | .join, .str a, [.lst xs] => match strsD xs with
    | some ys => if (ys.map (·.length)).sum + ys.length * a.length ≤ 1000000 then some (.fr, .str (Txt.join a ys)) else none
    | none => none
  | .join, .str a, [.tup xs] => match strsD xs with
    | some ys => if (ys.map (·.length)).sum + ys.length * a.length ≤ 1000000 then some (.fr, .str (Txt.join a ys)) else none
    | none => none
  | _, _, _ => none
/-- what comes, and the list behind it -/
def mmD : Mm → List D → List D → Option (D × List D)
  | .append, xs, [d] => if xs.length < lim then some (.non, xs ++ [d]) else none
  | .popAt, xs, [.int i] => match ixN xs.length i with
    | some k => match xs[k]? with
      | some d => if xs.length ≤ lim then some (d, xs.eraseIdx k) else none
      | none => none
    | none => none
  | .pop, xs, [] => match xs[xs.length - 1]? with
    | some d => some (d, xs.dropLast)
    | none => none
  | .clear, _, [] => some (.non, [])
  | _, _, _ => none
def slcD : D → Option Int → Option Int → Option (Kd × D)
  | .lst xs, lo, hi => some (.ow, .lst (cutD xs lo hi))
  | .tup xs, lo, hi => some (.fr, .tup (cutD xs lo hi))
  | .str s, lo, hi => if s.length ≤ lim then some (.fr, .str (cutS s lo hi)) else none
  | _, _, _ => none
/-- what is walked -/
def walkD : Itk → D → Option (List D)
  | .seq, .lst xs => some xs
  | .seq, .tup xs => some xs
  | .rng, .int j => if -1000000 < j ∧ j < 1000000 then some ((List.range j.toNat).map fun (i : Nat) => D.int (0 + (i : Int))) else none
  | .str, .str s => some (s.cps.toList.map fun c => D.str ⟨#[c]⟩)
  | _, _ => none
def M.isNo (m : M) (i : Nat) : Bool := match m.ρ[i]? with | some .no => true | _ => false
def bindT : List Nat → List D → M → Option M
  | [], [], m => some m
  | i :: is, d :: ds, m => if i < m.ρ.length then bindT is ds (m.put i (.th .fr d)) else none
  | _, _, _ => none
def Tgt.bind : Tgt → D → M → Option M
  | .nm i, d, m => if i < m.ρ.length then some (m.put i (.th .fr d)) else none
  | .tp is, .tup ds, m => bindT is ds m
  | _, _, _ => none
def Tgt.sl : Tgt → List Nat
  | .nm i => [i]
  | .tp is => is
def M.unset (m : M) (vs : List Nat) : M := vs.foldr (fun i m => m.put i .no) m

/-- an operand -/
def opnOf (e : E) (f : M → Rs (Kd × D)) (m : M) : Rs Opn := match e with
  | .var i => match m.ρ[i]? with
    | some (.th .fr d) => .ok (.tmp .fr d) m
    | some (.th .ow _) => .ok (.bor i) m
    | some (.th .le _) => .ok (.bor i) m
    | _ => .no
  | _ => (f m).bind fun r m' => .ok (.tmp r.1 r.2) m'
def frzOf (f : M → Rs (Kd × D)) (m : M) : Rs D := (f m).bind fun r m' => .ok r.2 m'
def retO {α : Type} (o : Option α) (m : M) : Rs α := match o with | some a => .ok a m | none => .no
def callF (fn : Fn) (ds : List D) (m : M) : Rs (Kd × D) :=
  match fn.sem ds (if fn.hasSt then m.ds else none) with
  | some (.ret .le _, _) => .no
  | some (.ret .un _, _) => .no
  | some (.ret k d, s) => .ok (k, d) (if fn.hasSt then { m with ds := s } else m)
  | some (.exc c d, s) => .ex c d (if fn.hasSt then { m with ds := s } else m)
  | none => .no
/-- an object is not lent -/
def leOk : Opn → D → Bool
  | .tmp .fr _, _ => true
  | _, .ins _ _ _ => false
  | _, _ => true
/-- the loop of a comprehension -/
def lcRun (tg : Tgt) (vs : List Nat) (fc : M → Rs Bool) (fe : M → Rs D) : List D → M → List D → Rs (List D)
  | [], m, acc => .ok acc m
  | d :: ds, m, acc => match tg.bind d m with
    | none => .no
    | some m1 => match fc m1 with
      | .ok true m2 => match fe m2 with
        | .ok y m3 => if acc.length < lim then lcRun tg vs fc fe ds (m3.unset vs) (acc ++ [y]) else .no
        | _ => .no
      | .ok false m2 => lcRun tg vs fc fe ds (m2.unset vs) acc
      | _ => .no
section
variable (Φ : Nat → Option Fn)
mutual
def ev : E → M → Rs (Kd × D)
  | .var i, m => match m.ρ[i]? with
    | some (.th .fr d) => .ok (.fr, d) m
    | some (.th .ow d) => .ok (.fr, d) (m.put i (.th .fr d))
    | _ => .no
  | .cst c, m => if c.ok then .ok (.fr, c.d) m else .no
  | .op o es, m => if o.vm then (evVs es m).bind fun ds m' => retO (opD o ds) m' else (evOs es m).bind fun os m' => retO ((resO m' os).bind (opD o)) m'
  | .slcL e lo, m => (opnOf e (ev e) m).bind fun x m1 => (ev lo m1).bind fun l m2 => match l with
    | (_, .int i) => retO ((x.d m2).bind fun d => slcD d (some i) none) m2
    | _ => .no
  | .slcH e hi, m => (opnOf e (ev e) m).bind fun x m1 => (ev hi m1).bind fun l m2 => match l with
    | (_, .int i) => retO ((x.d m2).bind fun d => slcD d none (some i)) m2
    | _ => .no
  | .slcB e lo hi, m => (opnOf e (ev e) m).bind fun x m1 => (ev lo m1).bind fun l m2 => match l with
    | (_, .int i) => (ev hi m2).bind fun u m3 => match u with
      | (_, .int j) => retO ((x.d m3).bind fun d => slcD d (some i) (some j)) m3
      | _ => .no
    | _ => .no
  | .bm mm o es, m => (ev o m).bind fun x m1 => match x with
    | (_, .str a) => (evOs es m1).bind fun os m2 => retO ((resO m2 os).bind (bmD mm (.str a))) m2
    | _ => .no
  | .mut mm i es, m => match m.ρ[i]? with
    | some (.th .ow (.lst _)) => (evVs es m).bind fun ds m1 => match m1.ρ[i]? with
      | some (.th .ow (.lst xs)) => match mmD mm xs ds with
        | some (d, xs') => .ok (.fr, d) (m1.put i (.th .ow (.lst xs')))
        | none => .no
      | _ => .no
    | _ => .no
  | .andE a b, m => (frzOf (ev a) m).bind fun x m1 => match trD x with
    | some true => (frzOf (ev b) m1).bind fun y m2 => .ok (.fr, y) m2
    | some false => .ok (.fr, x) m1
    | none => .no
  | .orE a b, m => (frzOf (ev a) m).bind fun x m1 => match trD x with
    | some true => .ok (.fr, x) m1
    | some false => (frzOf (ev b) m1).bind fun y m2 => .ok (.fr, y) m2
    | none => .no
  | .notE a, m => (opnOf a (ev a) m).bind fun x m1 => match (x.d m1).bind trD with
    | some c => .ok (.fr, .bl (!c)) m1
    | none => .no
  | .ite c a b, m => (evT c m).bind fun t m1 => if t then ev a m1 else ev b m1
  | .call f es, m => match Φ f with
    | some fn => (evAs fn.ps es m).bind fun ds m1 => callF fn ds m1
    | none => .no
  | .lc k ie tg cond elt vs, m => if tg.sl.all (fun i => vs.contains i) then (frzOf (ev ie) m).bind fun x m1 => match walkD k x with
      | some ds => if vs.all m1.isNo then (lcRun tg vs (evC cond) (frzOf (ev elt)) ds m1 []).bind fun ys m2 => .ok (.ow, .lst ys) m2 else .no
      | none => .no
    else .no
/-- a test -/
def evT : E → M → Rs Bool
  | .andE a b, m => (evT a m).bind fun x m1 => if x then evT b m1 else .ok false m1
  | .orE a b, m => (evT a m).bind fun x m1 => if x then .ok true m1 else evT b m1
  | .notE a, m => (evT a m).bind fun x m1 => .ok (!x) m1
  | .op o es, m => if o.cmp then (evOs es m).bind fun os m' => match (resO m' os).bind (opD o) with
      | some (_, .bl c) => .ok c m'
      | _ => .no
    else (if o.vm then (evVs es m).bind fun ds m' => retO (opD o ds) m' else (evOs es m).bind fun os m' => retO ((resO m' os).bind (opD o)) m').bind fun x m1 => retO (trD x.2) m1
  | .var i, m => match m.ρ[i]? with
    | some (.th .un _) => .no
    | some (.th _ d) => retO (trD d) m
    | _ => .no
  | .call f es, m => match Φ f with
    | some fn => (evAs fn.ps es m).bind fun ds m1 => (callF fn ds m1).bind fun x m2 => retO (trD x.2) m2
    | none => .no
  | _, _ => .no
/-- the tests of a comprehension -/
def evC : List E → M → Rs Bool
  | [], m => .ok true m
  | e :: _, m => evT e m
def evVs : List E → M → Rs (List D)
  | [], m => .ok [] m
  | e :: es, m => (frzOf (ev e) m).bind fun d m1 => (evVs es m1).bind fun ds m2 => .ok (d :: ds) m2
def evOs : List E → M → Rs (List Opn)
  | [], m => .ok [] m
  | e :: es, m => (opnOf e (ev e) m).bind fun d m1 => (evOs es m1).bind fun ds m2 => .ok (d :: ds) m2
/-- a call's arguments -/
def evAs : List Pm → List E → M → Rs (List D)
  | [], [], m => .ok [] m
  | .st :: ps, .var i :: es, m => match m.ρ[i]? with
    | some .st => (evAs ps es m).bind fun ds m2 => match m2.ρ[i]? with
      | some .st => .ok ds m2
      | _ => .no
    | _ => .no
  | .le :: ps, e :: es, m => (opnOf e (ev e) m).bind fun x m1 => (evAs ps es m1).bind fun ds m2 => match x.d m2 with
    | some d => if leOk x d then .ok (d :: ds) m2 else .no
    | none => .no
  | .vl :: ps, e :: es, m => (frzOf (ev e) m).bind fun d m1 => (evAs ps es m1).bind fun ds m2 => .ok (d :: ds) m2
  | _, _, _ => .no
end
end
end VI

set_option Elab.async false
set_option linter.all false
set_option maxRecDepth 100000
namespace VI
open PySem PySem.Spec PyProof.Rows L2

/-! ### what each construct is to the layer -/
def r1 (r : V → Hp → VK → Prop) : List V → Hp → VK → Prop := fun vs H Q => match vs with | [x] => r x H Q | _ => False
def r2 (r : R2) : List V → Hp → VK → Prop := fun vs H Q => match vs with | [x, y] => r x y H Q | _ => False
def orr (r r' : R2) : R2 := fun x y H Q => r x y H Q ∨ r' x y H Q
def rStrCat : R2 := fun x y H Q => ∃ i j, x = .str i ∧ y = .str j ∧ i.length + j.length ≤ sizeLine ∧ Q (.str (i ++ j)) H
def rLtS : R2 := fun x y H Q => ∃ i j, x = .str i ∧ y = .str j ∧ Q (.bl (decide (i.cps.toList < j.cps.toList))) H
def rInSg (n : Bool) : R2 := fun x y H Q => ∃ (c : Nat) (z : Str), x = .str ⟨#[c]⟩ ∧ y = .str z ∧ Q (.bl (if n then !decide (c ∈ z.cps.toList) else decide (c ∈ z.cps.toList))) H
def rIsNo (n : Bool) : R2 := fun x y H Q => y = .non ∧ Q (.bl (if n then !decide (x = .non) else decide (x = .non))) H
def rTupOf (K : PySem.W.Frag) : List V → Hp → VK → Prop := fun xs H Q => ∃ p ys, xs = [.ref p] ∧ ((SqL K H p ys ∧ ∀ l, H l = none → Q (.ref l) (upd H l (.tup ys))) ∨ (SqT K H p ys ∧ Q (.ref p) H))
def rRevU (K : PySem.W.Frag) : V → Hp → VK → Prop := fun x H Q => (∃ a xs, x = .ref a ∧ SqL K H a xs ∧ ∀ p, H p = none → Q (.ref p) (upd H p (.lst xs.reverse))) ∨ ∃ z, x = .str z ∧ z.length ≤ sizeLine ∧ Q (.str ⟨z.cps.toList.reverse.toArray⟩) H
def rel (K : PySem.W.Frag) : Op → List V → Hp → VK → Prop
  | .add => r2 (orr (rI0 fun i j => .int (i + j)) (orr rStrCat (orr rCat (rCatA K))))
  | .sub => r2 (rI0 fun i j => .int (i - j))
  | .mul => r2 (orr (rI CMulW fun i j => .int (i * j)) rRep)
  | .fdv => r2 (rI CDivW fun i j => .int (i / j))
  | .mod => r2 (rI (fun _ j => 0 < j) fun i j => .int (i % j))
  | .pow => r2 (rI CPow fun i j => .int (i ^ j.toNat))
  | .neg => r1 (rU fun i => .int (-i))
  | .eq => r2 (rEqD K)
  | .ne => r2 (rNeD K)
  | .lt => r2 (orr (rI0 fun i j => .bl (decide (i < j))) rLtS)
  | .le => r2 (rI0 fun i j => .bl (decide (i ≤ j)))
  | .gt => r2 (rI0 fun i j => .bl (decide (j < i)))
  | .ge => r2 (rI0 fun i j => .bl (decide (j ≤ i)))
  | .isin => r2 (rInSg false)
  | .nin => r2 (rInSg true)
  | .isN => r2 (rIsNo false)
  | .notN => r2 (rIsNo true)
  | .ix => r2 (rIx K)
  | .rev => r1 (rRevU K)
  | .len => fun xs H Q => ∃ x n, xs = [x] ∧ LenV K x H n ∧ Q (.int n) H
  | .abs => fun xs H Q => ∃ i, xs = [.int i] ∧ Q (.int (if i < 0 then -i else i)) H
  | .int => fun xs H Q => (∃ i, xs = [.int i] ∧ Q (.int i) H) ∨ ∃ k, xs = [.bl k] ∧ Q (.int (if k then 1 else 0)) H
  | .str => fun _ _ _ => False
  | .list => fun xs H Q => ∃ p ys, xs = [.ref p] ∧ (SqL K H p ys ∨ SqT K H p ys) ∧ ∀ l, H l = none → Q (.ref l) (upd H l (.lst ys))
  | .tuple => rTupOf K
  | .max2 => fun xs H Q => ∃ i j, xs = [.int i, .int j] ∧ Q (.int (if j > i then j else i)) H
  | .all => rAll K
  | .any => rAny K
  | .isT _ => rIsi K
  | .mkl => fun xs H Q => xs.length ≤ sizeLine ∧ ∀ p, H p = none → Q (.ref p) (upd H p (.lst xs))
  | .mkt => fun xs H Q => xs.length ≤ sizeLine ∧ ∀ p, H p = none → Q (.ref p) (upd H p (.tup xs))
def relB (K : PySem.W.Frag) : Bm → V → List V → Hp → VK → Prop
  | .join => fun x xs H Q => ∃ a p, ∃ ys : List Str, x = .str a ∧ xs = [.ref p] ∧ (SqL K H p (ys.map V.str) ∨ SqT K H p (ys.map V.str)) ∧ (ys.map (·.length)).sum + ys.length * a.length ≤ 16777216 ∧ Q (.str (Txt.join a ys)) H
def relM : Mm → V → List V → Hp → VK → Prop
  | .append => rAppend
  | .popAt => rPopAt
  | .pop => rPop
  | .clear => rClear
def rSlU (K : PySem.W.Frag) : V → Option Int → Option Int → Hp → VK → Prop := fun x lo hi H Q => rSlL K x lo hi H Q ∨ (rSlA K x lo hi H Q ∨ rSlS x lo hi H Q)
def iSeq (K : PySem.W.Frag) (tl : TE) : TI := fun σ H R => tl σ H fun x H1 => ∃ a, x = .ref a ∧ (((∃ xs, SqL K H1 a xs) ∧ R (Itl K a) H1) ∨ ((∃ xs, SqT K H1 a xs) ∧ R (Itt K a) H1))
def gNames : List Nat → TGs
  | [] => gNil
  | i :: is => gCons (gName i) (gNames is)
def TGt (K : PySem.W.Frag) : Tgt → TG
  | .nm i => gName i
  | .tp is => gTup K is.length (gNames is)
def tTru (K : PySem.W.Frag) (te : TE) : TT := fun σ H Q => te σ H fun x H' => ∃ k, TruV K x H' k ∧ Q k H'
def W0 : WX := fun _ _ _ _ => False

/-! ### what a def of the table promises -/
def Views (g : Gm) (F H : Hp) : List D → List V → Prop
  | [], vs => vs = []
  | d :: ds, vs => ∃ v ws, vs = v :: ws ∧ View g F H d v ∧ Views g F H ds ws
/-- what is lent: frozen, or a cell that is not the state's -/
def Lent (g : Gm) (F H : Hp) (ns : Addr → Prop) (d : D) (v : V) : Prop := Rep g F d v ∨ ∃ p, v = .ref p ∧ Cell g F H p d ∧ ns p ∧ ∀ c ns xs, d ≠ .ins c ns xs
/-- the arguments: the state's address apart -/
def Args (g : Gm) (F H : Hp) (s : Addr) (ns : Addr → Prop) : List Pm → List D → List V → Prop
  | [], ds, vs => ds = [] ∧ vs = []
  | .st :: ps, ds, vs => ∃ ws, vs = .ref s :: ws ∧ Args g F H s ns ps ds ws
  | .le :: ps, ds, vs => ∃ d es v ws, ds = d :: es ∧ vs = v :: ws ∧ Lent g F H ns d v ∧ Args g F H s ns ps es ws
  | .vl :: ps, ds, vs => ∃ d es v ws, ds = d :: es ∧ vs = v :: ws ∧ Rep g F d v ∧ Args g F H s ns ps es ws
theorem Args.imp {g : Gm} {F H : Hp} {s : Addr} {ns ns' : Addr → Prop} (q : ∀ p, ns p → ns' p) : ∀ {ps : List Pm} {ds : List D} {vs : List V}, Args g F H s ns ps ds vs → Args g F H s ns' ps ds vs
  | [], _, _, h => h
  | .st :: ps, _, _, ⟨ws, e, h⟩ => ⟨ws, e, Args.imp q h⟩
  | .le :: ps, _, _, ⟨d, es, v, ws, e1, e2, h1, h2⟩ => ⟨d, es, v, ws, e1, e2, h1.imp id fun ⟨p, a, b, c, e⟩ => ⟨p, a, b, q p c, e⟩, Args.imp q h2⟩
  | .vl :: ps, _, _, ⟨d, es, v, ws, e1, e2, h1, h2⟩ => ⟨d, es, v, ws, e1, e2, h1, Args.imp q h2⟩
theorem Args.len {g : Gm} {F H : Hp} {s : Addr} {ns : Addr → Prop} : ∀ {ps : List Pm} {ds : List D} {vs : List V}, Args g F H s ns ps ds vs → vs.length = ps.length
  | [], _, _, h => by rw [h.2]; rfl
  | .st :: ps, _, _, ⟨ws, e, h⟩ => by rw [e]; simp [Args.len h]
  | .le :: ps, _, _, ⟨d, es, v, ws, e1, e2, h1, h2⟩ => by rw [e2]; simp [Args.len h2]
  | .vl :: ps, _, _, ⟨d, es, v, ws, e1, e2, h1, h2⟩ => by rw [e2]; simp [Args.len h2]
/-- the state, its cells S -/
def StAt (F H : Hp) (s : Addr) (S : Addr → Prop) : DS → Prop
  | .dr ns sc c => ∃ a b, H s = some (.lst [.ref a, .ref b, .int c]) ∧ H a = some (.lst (ns.map V.int)) ∧ F b = some (.lst (sc.map V.int)) ∧ a ≠ s ∧ F s = none ∧ F a = none ∧ ∀ p, S p ↔ p = s ∨ p = a
  | .tk ns i c => ∃ a, H s = some (.lst [.ref a, .int i, .int c]) ∧ H a = some (.lst (ns.map V.int)) ∧ a ≠ s ∧ F s = none ∧ F a = none ∧ ∀ p, S p ↔ p = s ∨ p = a
/-- what is left behind a call that had the cells S -/
structure Left (F H F' H' : Hp) (S : Addr → Prop) : Prop where
  f : Sub F F'
  s : Sub F' H'
  h : ∀ p o, H p = some o → ¬ S p → H' p = some o ∧ (F p = none → F' p = none)
  e : ∀ p, H p ≠ none → H' p ≠ none
def StMaybe (F H : Hp) (s : Addr) (S : Addr → Prop) : Option DS → Prop
  | none => ∀ p, ¬ S p
  | some x => StAt F H s S x
def spF (g : Gm) (fl : Str → Str) (fn : Fn) : Sp := fun vs H Q E => ∃ (F : Hp) (s : Addr) (S : Addr → Prop) (ds : List D) (x : Option DS),
  Sub F H ∧ Args g F H s (fun p => ¬ S p) fn.ps ds vs ∧ StMaybe F H s S x ∧ (fn.hasSt = false → x = none) ∧ match fn.sem ds x with
  | none => False
  | some (.ret k d, x') => ∀ v F' H' S', Left F H F' H' S → StMaybe F' H' s S' x' → (∀ p, S' p → S p ∨ H p = none) → Made g F H F' H' v k d → (k = .ow → ∀ p, S' p → v ≠ .ref p) → Q v H'
  | some (.exc c d, x') => ∀ v dx F' H' S', Left F H F' H' S → StMaybe F' H' s S' x' → (∀ p, S' p → S p ∨ H p = none) → Rep g F' d v → F' dx = some (.xd [(fl c, v)]) → E (.ref (g.cl c)) (some dx) H'
section
variable (g : Gm) (fl : Str → Str) (Φ : Nat → Option Fn)
def spT (f : Nat) : Sp := match Φ f with | some fn => spF g fl fn | none => fun _ _ _ _ => False
mutual
def T : E → WX → TE
  | .var i, _ => tVar i
  | .cst c, _ => tC c.v
  | .op o es, W => tCB (rel g.K o) (TL es o.tail W)
  | .slcL e lo, W => tSl (rSlU g.K) (T e W) (tPart (T lo W)) tNoPart
  | .slcH e hi, W => tSl (rSlU g.K) (T e W) tNoPart (tPart (T hi W))
  | .slcB e lo hi, W => tSl (rSlU g.K) (T e W) (tPart (T lo W)) (tPart (T hi W))
  | .bm m o es, W => fun σ H Q => T o W σ H fun x H1 => (∃ a, x = .str a) ∧ TL es [] W σ H1 fun xs H2 => relB g.K m x xs H2 Q
  | .mut m i es, W => tBM g.K "list" (relM m) (tVar i) (TL es [] W)
  | .andE a b, W => tAndT g.K (T a W) (T b W)
  | .orE a b, W => tOrT g.K (T a W) (T b W)
  | .notE a, W => tNotT g.K (T a W)
  | .ite c a b, W => tIf (TT' c W) (T a W) (T b W)
  | .call f es, W => tCallS (spT g fl Φ f) (WE W) (TL es [] W)
  | .lc k ie tg cond elt vs, W => tLc (match k with
      | .seq => iSeq g.K (T ie W)
      | .rng => iRng1 (tCons (T ie W) tNil)
      | .str => iStr (T ie W)) (TGt g.K tg) (TCn cond W0) (T elt W0) vs
def TT' : E → WX → TT
  | .andE a b, W => tAnd (TT' a W) (TT' b W)
  | .orE a b, W => tOr (TT' a W) (TT' b W)
  | .notE a, W => tNot (TT' a W)
  | .op o es, W => if o.cmp then tTest (tCB (rel g.K o) (TL es o.tail W)) else tTru g.K (tCB (rel g.K o) (TL es o.tail W))
  | .var i, _ => tTru g.K (tVar i)
  | .call f es, W => tTru g.K (tCallS (spT g fl Φ f) (WE W) (TL es [] W))
  | _, _ => fun _ _ _ => False
def TCn : List E → WX → TT
  | [], _ => tYes
  | e :: _, W => TT' e W
def TL : List E → List V → WX → TA
  | [], cs, _ => fun _ H Q => Q cs H
  | e :: es, cs, W => tCons (T e W) (TL es cs W)
end
end

/-! ### operations -/
section
variable {g : Gm} {F H : Hp}
theorem View.int {i : Int} {v : V} (h : View g F H (.int i) v) : v = .int i := by
  rcases h with h | ⟨p, _, c⟩
  · simpa only [Rep] using h
  · exact c.elim
theorem View.bl {i : Bool} {v : V} (h : View g F H (.bl i) v) : v = .bl i := by
  rcases h with h | ⟨p, _, c⟩
  · simpa only [Rep] using h
  · exact c.elim
theorem View.non {v : V} (h : View g F H .non v) : v = .non := by
  rcases h with h | ⟨p, _, c⟩
  · simpa only [Rep] using h
  · exact c.elim
theorem View.str {i : Str} {v : V} (h : View g F H (.str i) v) : v = .str i ∧ PyData.strOk i = true := by
  rcases h with h | ⟨p, _, c⟩
  · simpa only [Rep] using h
  · exact c.elim
theorem View.lst {ds : List D} {v : V} (s : Sub F H) (h : View g F H (.lst ds) v) : ∃ p vs, v = .ref p ∧ H p = some (.lst vs) ∧ Reps g F ds vs := by
  rcases h with h | ⟨p, e, vs, c, r⟩
  · simp only [Rep] at h
    obtain ⟨a, vs, e, h1, r⟩ := h
    exact ⟨a, vs, e, s _ _ h1, r⟩
  · exact ⟨p, vs, e, c, r⟩
theorem View.tup {ds : List D} {v : V} (h : View g F H (.tup ds) v) : ∃ p vs, v = .ref p ∧ SqT g.K F p vs ∧ Reps g F ds vs := by
  rcases h with h | ⟨p, e, c⟩
  · simpa only [Rep] using h
  · exact c.elim
theorem Views.one {d : D} {vs : List V} (h : Views g F H [d] vs) : ∃ v, vs = [v] ∧ View g F H d v := by
  obtain ⟨v, ws, rfl, h1, h2⟩ := h
  cases h2
  exact ⟨v, rfl, h1⟩
theorem Views.two {d e : D} {vs : List V} (h : Views g F H [d, e] vs) : ∃ v w, vs = [v, w] ∧ View g F H d v ∧ View g F H e w := by
  obtain ⟨v, ws, rfl, h1, h2⟩ := h
  obtain ⟨w, rfl, h3⟩ := Views.one h2
  exact ⟨v, w, rfl, h1, h3⟩
/-- what an operation hands on -/
abbrev Hand (g : Gm) (F H : Hp) (Q : VK) (r : Kd × D) : Prop := ∀ v F' H', Ext F H F' H' → Made g F H F' H' v r.1 r.2 → Q v H'
theorem Hand.fr {Q : VK} {d : D} {v : V} (s : Sub F H) (q : Hand g F H Q (.fr, d)) (r : Rep g F d v) : Q v H := q v F H (Ext.refl s) r
theorem Hand.list {Q : VK} {ds : List D} {vs : List V} (s : Sub F H) (q : Hand g F H Q (.ow, .lst ds)) (r : Reps g F ds vs) {p : Addr} (hp : H p = none) : Q (.ref p) (upd H p (.lst vs)) :=
  q _ F _ (Ext.list s hp _) ⟨p, rfl, hp, (by
    cases e : F p with
    | none => rfl
    | some u => rw [s p u e] at hp; cases hp), vs, upd_same, r⟩
theorem Hand.tupl {Q : VK} {ds : List D} {vs : List V} (s : Sub F H) (q : Hand g F H Q (.fr, .tup ds)) (r : Reps g F ds vs) {p : Addr} (hp : H p = none) : Q (.ref p) (upd H p (.tup vs)) :=
  have x := Ext.froz s hp (.tup vs)
  q _ (upd F p (.tup vs)) _ x (by show Rep _ _ _ _; simp only [Rep]; exact ⟨p, vs, rfl, SqT.of upd_same, r.mono x.f⟩)
theorem lim_le {n : Nat} (h : n ≤ lim) : n ≤ sizeLine := Nat.le_trans h (by decide)
mutual
theorem Rep.dp (s : Sub F H) : ∀ {d : D} {v : V} {x : PyData}, Rep g F d v → D.py d = some x → Dp g.K H v x ∧ x.canLay0 = true
  | .non, v, x, h, e => by simp only [Rep] at h; simp only [D.py, Option.some.injEq] at e; subst h e; exact ⟨.non, by simp [PyData.canLay0]⟩
  | .bl b, v, x, h, e => by simp only [Rep] at h; simp only [D.py, Option.some.injEq] at e; subst h e; exact ⟨.bl b, by simp [PyData.canLay0]⟩
  | .int i, v, x, h, e => by simp only [Rep] at h; simp only [D.py, Option.some.injEq] at e; subst h e; exact ⟨.int i, by simp [PyData.canLay0]⟩
  | .str z, v, x, h, e => by simp only [Rep] at h; simp only [D.py, Option.some.injEq] at e; obtain ⟨rfl, h⟩ := h; subst e; exact ⟨.str z, by simpa [PyData.canLay0] using h⟩
  | .tup ds, v, x, h, e => by
    simp only [Rep] at h
    obtain ⟨a, vs, rfl, h1, r⟩ := h
    simp only [D.py] at e
    cases e1 : D.pys ds with
    | none => rw [e1] at e; cases e
    | some xs =>
      rw [e1] at e
      simp only [Option.map_some, Option.some.injEq] at e
      subst e
      have z := Reps.dp s r e1
      exact ⟨.tup (s.sqT h1) z.1, by simpa [PyData.canLay0] using z.2⟩
  | .lst ds, v, x, h, e => by
    simp only [Rep] at h
    obtain ⟨a, vs, rfl, h1, r⟩ := h
    simp only [D.py] at e
    cases e1 : D.pys ds with
    | none => rw [e1] at e; cases e
    | some xs =>
      rw [e1] at e
      simp only [Option.map_some, Option.some.injEq] at e
      subst e
      have z := Reps.dp s r e1
      exact ⟨.lst (SqL.of (s _ _ h1)) z.1, by simpa [PyData.canLay0] using z.2⟩
  | .dk _ _, v, x, h, e => by simp [D.py] at e
  | .dt _ _, v, x, h, e => by simp [D.py] at e
  | .ins _ _ _, v, x, h, e => by simp [D.py] at e
theorem Reps.dp (s : Sub F H) : ∀ {ds : List D} {vs : List V} {xs : List PyData}, Reps g F ds vs → D.pys ds = some xs → DpAll g.K H vs xs ∧ PyData.canLayAll0 xs = true
  | [], vs, xs, h, e => by simp only [Reps] at h; simp only [D.pys, Option.some.injEq] at e; subst h e; exact ⟨.nil, by simp [PyData.canLayAll0]⟩
  | d :: ds, vs, xs, h, e => by
    obtain ⟨v, ws, rfl, h1, h2⟩ := h.uncons
    simp only [D.pys] at e
    cases e1 : D.py d with
    | none => rw [e1] at e; cases e
    | some x =>
      cases e2 : D.pys ds with
      | none => rw [e1, e2] at e; cases e
      | some ys =>
        rw [e1, e2] at e
        simp only [Option.some.injEq] at e
        subst e
        have z := Rep.dp s h1 e1
        have y := Reps.dp s h2 e2
        exact ⟨.cons z.1 y.1, by simp [PyData.canLayAll0, z.2, y.2]⟩
end
theorem View.dp (s : Sub F H) {d : D} {v : V} {x : PyData} (h : View g F H d v) (e : D.py d = some x) : Dp g.K H v x ∧ x.canLay0 = true := by
  rcases h with h | ⟨p, rfl, c⟩
  · exact h.dp s e
  · cases d with
    | lst ds =>
      obtain ⟨vs, a, r⟩ := c
      simp only [D.py] at e
      cases e1 : D.pys ds with
      | none => rw [e1] at e; cases e
      | some xs =>
        rw [e1] at e
        simp only [Option.map_some, Option.some.injEq] at e
        subst e
        have z := Reps.dp s r e1
        exact ⟨.lst (SqL.of a) z.1, by simpa [PyData.canLay0] using z.2⟩
    | dk => simp [D.py] at e
    | dt => simp [D.py] at e
    | ins => simp [D.py] at e
    | non => exact c.elim
    | bl => exact c.elim
    | int => exact c.elim
    | str => exact c.elim
    | tup => exact c.elim
theorem bsD_map : ∀ {ds : List D} {bs : List Bool}, bsD ds = some bs → ds = bs.map D.bl
  | [], bs, e => by simp only [bsD, Option.some.injEq] at e; subst e; rfl
  | d :: ds, bs, e => by
    cases d with
    | bl b =>
      simp only [bsD] at e
      cases e1 : bsD ds with
      | none => rw [e1] at e; cases e
      | some cs => rw [e1] at e; simp only [Option.map_some, Option.some.injEq] at e; subst e; rw [bsD_map e1]; rfl
    | _ => simp [bsD] at e
theorem strsD_map : ∀ {ds : List D} {bs : List Str}, strsD ds = some bs → ds = bs.map D.str
  | [], bs, e => by simp only [strsD, Option.some.injEq] at e; subst e; rfl
  | d :: ds, bs, e => by
    cases d with
    | str b =>
      simp only [strsD] at e
      cases e1 : strsD ds with
      | none => rw [e1] at e; cases e
      | some cs => rw [e1] at e; simp only [Option.map_some, Option.some.injEq] at e; subst e; rw [strsD_map e1]; rfl
    | _ => simp [strsD] at e
end
end VI

set_option Elab.async false
set_option linter.all false
set_option maxRecDepth 100000
namespace VI
open PySem PySem.Spec PyProof.Rows L2
section
variable {g : Gm} {F H : Hp} {Q : VK}
theorem strOk_append {x y : Str} (hx : PyData.strOk x = true) (hy : PyData.strOk y = true) : PyData.strOk (x ++ y) = true := by
  unfold PyData.strOk at *
  have e : (x ++ y).cps = x.cps ++ y.cps := rfl
  rw [e, Array.all_append, hx, hy]; rfl
theorem strOk_iff {x : Str} : PyData.strOk x = true ↔ ∀ c ∈ x.cps.toList, c < 0x110000 := by
  unfold PyData.strOk
  rw [← Array.all_toList, List.all_eq_true]
  simp
theorem strOk_one {x : Str} (h : PyData.strOk x = true) {c : Nat} (hc : c ∈ x.cps.toList) : PyData.strOk ⟨#[c]⟩ = true := by
  rw [strOk_iff] at h ⊢
  intro d hd
  have : d = c := by simpa using hd
  subst this; exact h d hc
theorem Rep.scal_int {i : Int} : Rep g F (.int i) (.int i) := by simp only [Rep]
theorem Rep.scal_bl {i : Bool} : Rep g F (.bl i) (.bl i) := by simp only [Rep]
theorem Rep.scal_non : Rep g F .non .non := by simp only [Rep]
theorem Rep.scal_str {i : Str} (h : PyData.strOk i = true) : Rep g F (.str i) (.str i) := by simp only [Rep]; exact ⟨trivial, h⟩
theorem Rep.mk_tup {ds : List D} {vs : List V} {p : Addr} (h : SqT g.K F p vs) (r : Reps g F ds vs) : Rep g F (.tup ds) (.ref p) := by simp only [Rep]; exact ⟨p, vs, rfl, h, r⟩

/-- the operands of an operation of two -/
theorem two_of {o : Op} {ds : List D} {r : Kd × D} (h : opD o ds = some r) (ho : match o with | .add | .sub | .mul | .fdv | .mod | .pow | .eq | .ne | .lt | .le | .gt | .ge | .isin | .nin | .isN | .notN | .ix | .max2 => True | _ => False) : ∃ a b, ds = [a, b] := by
  cases o <;> first
    | exact ho.elim
    | (rcases ds with _ | ⟨a, _ | ⟨b, _ | ⟨c, l⟩⟩⟩ <;> first | exact ⟨a, b, rfl⟩ | simp [opD] at h)
theorem one_of {o : Op} {ds : List D} {r : Kd × D} (h : opD o ds = some r) (ho : match o with | .rev | .neg | .len | .abs | .int | .list | .tuple | .all | .any | .isT _ => True | _ => False) : ∃ a, ds = [a] := by
  cases o <;> first
    | exact ho.elim
    | (rcases ds with _ | ⟨a, _ | ⟨b, l⟩⟩ <;> first | exact ⟨a, rfl⟩ | simp [opD] at h)

theorem op_add {a b : D} {x y : V} {r : Kd × D} (s : Sub F H) (ha : View g F H a x) (hb : View g F H b y) (h : opD .add [a, b] = some r) (q : Hand g F H Q r) : rel g.K .add [x, y] H Q := by
  show orr _ _ x y H Q
  cases a <;> cases b <;> try (simp [opD] at h; done)
  · rename_i i j
    simp only [opD, Option.some.injEq] at h; subst h
    cases ha.int; cases hb.int
    exact .inl ⟨i, j, rfl, rfl, q.fr s .scal_int⟩
  · rename_i i j
    simp only [opD] at h
    split at h
    · rename_i hl
      simp only [Option.some.injEq] at h; subst h
      obtain ⟨rfl, ka⟩ := ha.str; obtain ⟨rfl, kb⟩ := hb.str
      exact .inr (.inl ⟨i, j, rfl, rfl, lim_le hl, q.fr s (.scal_str (strOk_append ka kb))⟩)
    · cases h
  · rename_i xs ys
    simp only [opD] at h
    split at h
    · rename_i hl
      simp only [Option.some.injEq] at h; subst h
      obtain ⟨p, vs, rfl, e1, r1⟩ := ha.tup; obtain ⟨p2, vs2, rfl, e2, r2⟩ := hb.tup
      refine .inr (.inr (.inr ⟨p, p2, vs, vs2, rfl, rfl, s.sqT e1, s.sqT e2, by rw [← r1.length, ← r2.length]; exact lim_le hl, fun z => ?_, fun _ z => ?_, fun _ _ l hl' => q.tupl s (r1.append r2) hl'⟩))
      · subst z
        have : xs = [] := List.length_eq_zero_iff.mp r1.length
        subst this
        exact q.fr s (.mk_tup e2 r2)
      · subst z
        have : ys = [] := List.length_eq_zero_iff.mp r2.length
        subst this
        rw [List.append_nil] at q
        exact q.fr s (.mk_tup e1 r1)
    · cases h
  · rename_i xs ys
    simp only [opD] at h
    split at h
    · rename_i hl
      simp only [Option.some.injEq] at h; subst h
      obtain ⟨p, vs, rfl, e1, r1⟩ := ha.lst s; obtain ⟨p2, vs2, rfl, e2, r2⟩ := hb.lst s
      exact .inr (.inr (.inl ⟨p, p2, vs, vs2, rfl, rfl, e1, e2, by rw [← r1.length, ← r2.length]; exact lim_le hl, fun l hl' => q.list s (r1.append r2) hl'⟩))
    · cases h
theorem rep_flat {ds : List D} {vs : List V} (r : Reps g F ds vs) : ∀ k : Nat, Reps g F (List.replicate k ds).flatten (List.replicate k vs).flatten
  | 0 => by simp [Reps.nil]
  | k + 1 => by rw [List.replicate_succ, List.replicate_succ, List.flatten_cons, List.flatten_cons]; exact r.append (rep_flat r k)
theorem op_mul {a b : D} {x y : V} {r : Kd × D} (s : Sub F H) (ha : View g F H a x) (hb : View g F H b y) (h : opD .mul [a, b] = some r) (q : Hand g F H Q r) : rel g.K .mul [x, y] H Q := by
  show orr _ _ x y H Q
  cases a <;> cases b <;> try (simp [opD] at h; done)
  · rename_i i j
    simp only [opD] at h
    split at h
    · rename_i hl
      simp only [Option.some.injEq] at h; subst h
      cases ha.int; cases hb.int
      exact .inl ⟨i, j, rfl, rfl, hl, q.fr s .scal_int⟩
    · cases h
  · rename_i xs k
    simp only [opD] at h
    split at h
    · rename_i hl
      simp only [Option.some.injEq] at h; subst h
      cases hb.int
      obtain ⟨p, vs, rfl, e1, r1⟩ := ha.lst s
      refine .inr ⟨p, k, vs, rfl, rfl, e1, by omega, by omega, ?_, fun l hl' => q.list s (rep_flat r1 _) hl'⟩
      have h1 := r1.length
      have h2 : k.toNat ≤ 1000 := by omega
      have h3 : vs.length ≤ 1000 := by omega
      exact Nat.le_trans (Nat.mul_le_mul h3 h2) (by decide)
    · cases h
theorem op_int2 {o : Op} {a b : D} {x y : V} {r : Kd × D} (s : Sub F H) (ha : View g F H a x) (hb : View g F H b y) (h : opD o [a, b] = some r) (q : Hand g F H Q r)
    (ho : o = .sub ∨ o = .fdv ∨ o = .mod ∨ o = .pow ∨ o = .le ∨ o = .gt ∨ o = .ge ∨ o = .max2) : rel g.K o [x, y] H Q := by
  rcases ho with rfl | rfl | rfl | rfl | rfl | rfl | rfl | rfl <;> cases a <;> cases b <;> try (simp [opD] at h; done)
  all_goals
    rename_i i j
    cases ha.int; cases hb.int
    simp only [opD] at h
  · simp only [Option.some.injEq] at h; subst h
    exact ⟨i, j, rfl, rfl, q.fr s .scal_int⟩
  · split at h
    · rename_i hl
      simp only [Option.some.injEq] at h; subst h
      exact ⟨i, j, rfl, rfl, hl, q.fr s .scal_int⟩
    · cases h
  · split at h
    · rename_i hl
      simp only [Option.some.injEq] at h; subst h
      exact ⟨i, j, rfl, rfl, hl, q.fr s .scal_int⟩
    · cases h
  · split at h
    · rename_i hl
      simp only [Option.some.injEq] at h; subst h
      exact ⟨i, j, rfl, rfl, hl, q.fr s .scal_int⟩
    · cases h
  · simp only [Option.some.injEq] at h; subst h
    exact ⟨i, j, rfl, rfl, q.fr s .scal_bl⟩
  · simp only [Option.some.injEq] at h; subst h
    exact ⟨i, j, rfl, rfl, q.fr s .scal_bl⟩
  · simp only [Option.some.injEq] at h; subst h
    exact ⟨i, j, rfl, rfl, q.fr s .scal_bl⟩
  · simp only [Option.some.injEq] at h; subst h
    exact ⟨i, j, rfl, q.fr s .scal_int⟩
theorem op_lt {a b : D} {x y : V} {r : Kd × D} (s : Sub F H) (ha : View g F H a x) (hb : View g F H b y) (h : opD .lt [a, b] = some r) (q : Hand g F H Q r) : rel g.K .lt [x, y] H Q := by
  show orr _ _ x y H Q
  cases a <;> cases b <;> try (simp [opD] at h; done)
  · rename_i i j
    simp only [opD, Option.some.injEq] at h; subst h
    cases ha.int; cases hb.int
    exact .inl ⟨i, j, rfl, rfl, q.fr s .scal_bl⟩
  · rename_i i j
    simp only [opD, Option.some.injEq] at h; subst h
    obtain ⟨rfl, ka⟩ := ha.str; obtain ⟨rfl, kb⟩ := hb.str
    exact .inr ⟨i, j, rfl, rfl, q.fr s .scal_bl⟩
theorem eqD_of {a b : D} {c : Bool} (h : eqD a b = some c) : ∃ x y, D.py a = some x ∧ D.py b = some y ∧ x.depth ≤ 60 ∧ y.depth ≤ 60 ∧ c = PyData.eqv x y := by
  unfold eqD at h
  split at h
  · rename_i x y e1 e2
    split at h
    · rename_i hd
      exact ⟨x, y, e1, e2, hd.1, hd.2, (Option.some.inj h).symm⟩
    · cases h
  · cases h
theorem shaped_of {x : PyData} (h : x.canLay0 = true) (d : x.depth ≤ 60) : SeqAt.shaped x = true := by
  show (x.canLay0 && decide (x.depth ≤ 64)) = true
  rw [h, Bool.true_and]; exact decide_eq_true (by omega)
theorem op_eq2 {o : Op} {a b : D} {x y : V} {r : Kd × D} (s : Sub F H) (ha : View g F H a x) (hb : View g F H b y) (h : opD o [a, b] = some r) (q : Hand g F H Q r) (ho : o = .eq ∨ o = .ne) : rel g.K o [x, y] H Q := by
  rcases ho with rfl | rfl
  all_goals
    have h' : (eqD a b).isSome = true := by
      cases e : eqD a b with
      | none => simp [opD, e] at h
      | some c => rfl
    obtain ⟨c, e⟩ := Option.isSome_iff_exists.mp h'
    obtain ⟨u, w, e1, e2, d1, d2, rfl⟩ := eqD_of e
    simp only [opD, e, Option.map_some, Option.some.injEq] at h
    subst h
    have z1 := ha.dp s e1
    have z2 := hb.dp s e2
    exact ⟨u, w, z1.1, z2.1, shaped_of z1.2 d1, shaped_of z2.2 d2, q.fr s .scal_bl⟩
theorem str_one {x : Str} {c : Nat} (h : x.cps.toList = [c]) : x = ⟨#[c]⟩ := by
  cases x with
  | mk cps =>
    congr 1
    apply Array.ext'
    simpa using h
theorem op_in2 {o : Op} {a b : D} {x y : V} {r : Kd × D} (s : Sub F H) (ha : View g F H a x) (hb : View g F H b y) (h : opD o [a, b] = some r) (q : Hand g F H Q r) (ho : o = .isin ∨ o = .nin) : rel g.K o [x, y] H Q := by
  rcases ho with rfl | rfl <;> cases a <;> cases b <;> try (simp [opD] at h; done)
  all_goals
    rename_i i j
    obtain ⟨rfl, ka⟩ := ha.str; obtain ⟨rfl, kb⟩ := hb.str
    simp only [opD] at h
    split at h
    · rename_i c e
      simp only [Option.some.injEq] at h; subst h
      exact ⟨c, j, by rw [str_one e], rfl, q.fr s .scal_bl⟩
    · cases h
theorem view_ne_non {d : D} {v : V} (h : View g F H d v) (hd : d ≠ .non) : v ≠ .non := by
  rintro rfl
  rcases h with h | ⟨p, e, _⟩
  · cases d <;> simp [Rep] at h hd
  · cases e
theorem op_isN2 {o : Op} {a b : D} {x y : V} {r : Kd × D} (s : Sub F H) (ha : View g F H a x) (hb : View g F H b y) (h : opD o [a, b] = some r) (q : Hand g F H Q r) (ho : o = .isN ∨ o = .notN) : rel g.K o [x, y] H Q := by
  have hbn : b = .non := by
    rcases ho with rfl | rfl <;> cases a <;> cases b <;> first | rfl | (simp [opD] at h; done)
  subst hbn
  cases hb.non
  by_cases z : a = .non
  · subst z
    cases ha.non
    rcases ho with rfl | rfl
    · simp only [opD, Option.some.injEq] at h; subst h; exact ⟨rfl, by simpa using q.fr s .scal_bl⟩
    · simp only [opD, Option.some.injEq] at h; subst h; exact ⟨rfl, by simpa using q.fr s .scal_bl⟩
  · have n := view_ne_non ha z
    rcases ho with rfl | rfl
    · have : r = (.fr, .bl false) := by cases a <;> simp_all [opD]
      subst this; exact ⟨rfl, by simpa [n] using q.fr s .scal_bl⟩
    · have : r = (.fr, .bl true) := by cases a <;> simp_all [opD]
      subst this; exact ⟨rfl, by simpa [n] using q.fr s .scal_bl⟩
theorem atI_rep {ds : List D} {vs : List V} {i : Int} {d : D} (r : Reps g F ds vs) (h : atI ds i = some d) : ∃ v, atI vs i = some v ∧ Rep g F d v := by
  unfold atI at *
  rw [r.length] at h
  cases e : ixN vs.length i with
  | none => rw [e] at h; cases h
  | some j =>
    rw [e] at h
    simp only [Option.bind_some] at h ⊢
    exact r.get h
theorem op_ix {a b : D} {x y : V} {r : Kd × D} (s : Sub F H) (ha : View g F H a x) (hb : View g F H b y) (h : opD .ix [a, b] = some r) (q : Hand g F H Q r) : rel g.K .ix [x, y] H Q := by
  show rIx g.K x y H Q
  cases a <;> cases b <;> try (simp [opD] at h; done)
  · rename_i z i
    simp only [opD] at h
    split at h
    · rename_i hl
      obtain ⟨rfl, ka⟩ := ha.str; cases hb.int
      cases e : atI z.cps.toList i with
      | none => rw [e] at h; cases h
      | some c =>
        rw [e] at h
        simp only [Option.map_some, Option.some.injEq] at h; subst h
        refine .inr (.inr ⟨z, i, c, rfl, rfl, lim_le hl, e, q.fr s (.scal_str (strOk_one ka ?_))⟩)
        obtain ⟨j, _, e2, _⟩ := atI_get e
        exact List.mem_of_getElem? e2
    · cases h
  · rename_i xs i
    simp only [opD] at h
    obtain ⟨p, vs, rfl, e1, r1⟩ := ha.tup; cases hb.int
    cases e : atI xs i with
    | none => rw [e] at h; cases h
    | some d =>
      rw [e] at h
      simp only [Option.map_some, Option.some.injEq] at h; subst h
      obtain ⟨v, e2, r2⟩ := atI_rep r1 e
      exact .inr (.inl ⟨p, vs, i, v, rfl, rfl, s.sqT e1, e2, q.fr s r2⟩)
  · rename_i xs i
    simp only [opD] at h
    obtain ⟨p, vs, rfl, e1, r1⟩ := ha.lst s; cases hb.int
    cases e : atI xs i with
    | none => rw [e] at h; cases h
    | some d =>
      rw [e] at h
      simp only [Option.map_some, Option.some.injEq] at h; subst h
      obtain ⟨v, e2, r2⟩ := atI_rep r1 e
      exact .inl ⟨p, vs, i, v, rfl, rfl, SqL.of e1, e2, q.fr s r2⟩
theorem op_len {a : D} {x : V} {r : Kd × D} (s : Sub F H) (ha : View g F H a x) (h : opD .len [a] = some r) (q : Hand g F H Q r) : rel g.K .len [x] H Q := by
  cases a <;> try (simp [opD] at h; done)
  · rename_i z
    simp only [opD] at h
    split at h
    · rename_i hl
      simp only [Option.some.injEq] at h; subst h
      obtain ⟨rfl, _⟩ := ha.str
      exact ⟨_, z.length, rfl, ⟨lim_le hl, rfl⟩, q.fr s .scal_int⟩
    · cases h
  · rename_i xs
    simp only [opD, Option.some.injEq] at h; subst h
    obtain ⟨p, vs, rfl, e1, r1⟩ := ha.tup
    exact ⟨_, vs.length, rfl, .inr ⟨vs, s.sqT e1, rfl⟩, by rw [← r1.length]; exact q.fr s .scal_int⟩
  · rename_i xs
    simp only [opD, Option.some.injEq] at h; subst h
    obtain ⟨p, vs, rfl, e1, r1⟩ := ha.lst s
    exact ⟨_, vs.length, rfl, .inl ⟨vs, SqL.of e1, rfl⟩, by rw [← r1.length]; exact q.fr s .scal_int⟩
theorem op_rev {a : D} {x : V} {r : Kd × D} (s : Sub F H) (ha : View g F H a x) (h : opD .rev [a] = some r) (q : Hand g F H Q r) : rel g.K .rev [x] H Q := by
  show rRevU g.K x H Q
  cases a <;> try (simp [opD] at h; done)
  · rename_i z
    simp only [opD] at h
    split at h
    · rename_i hl
      simp only [Option.some.injEq] at h; subst h
      obtain ⟨rfl, k⟩ := ha.str
      refine .inr ⟨z, rfl, lim_le hl, q.fr s (.scal_str ?_)⟩
      rw [strOk_iff] at k ⊢
      intro c hc
      exact k c (by simpa using hc)
    · cases h
  · rename_i xs
    simp only [opD, Option.some.injEq] at h; subst h
    obtain ⟨p, vs, rfl, e1, r1⟩ := ha.lst s
    exact .inl ⟨p, vs, rfl, SqL.of e1, fun l hl => q.list s r1.reverse hl⟩
theorem op_one {o : Op} {a : D} {x : V} {r : Kd × D} (s : Sub F H) (ha : View g F H a x) (h : opD o [a] = some r) (q : Hand g F H Q r)
    (ho : o = .neg ∨ o = .abs ∨ o = .int ∨ o = .list ∨ o = .tuple ∨ o = .all ∨ o = .any) : rel g.K o [x] H Q := by
  rcases ho with rfl | rfl | rfl | rfl | rfl | rfl | rfl <;> cases a <;> try (simp [opD] at h; done)
  · simp only [opD, Option.some.injEq] at h; subst h
    cases ha.int; exact ⟨_, rfl, q.fr s .scal_int⟩
  · simp only [opD, Option.some.injEq] at h; subst h
    cases ha.int; exact ⟨_, rfl, q.fr s .scal_int⟩
  · simp only [opD, Option.some.injEq] at h; subst h
    cases ha.bl; exact .inr ⟨_, rfl, q.fr s .scal_int⟩
  · simp only [opD, Option.some.injEq] at h; subst h
    cases ha.int; exact .inl ⟨_, rfl, q.fr s .scal_int⟩
  · simp only [opD, Option.some.injEq] at h; subst h
    obtain ⟨p, vs, rfl, e1, r1⟩ := ha.tup
    exact ⟨p, vs, rfl, .inr (s.sqT e1), fun l hl => q.list s r1 hl⟩
  · simp only [opD, Option.some.injEq] at h; subst h
    obtain ⟨p, vs, rfl, e1, r1⟩ := ha.lst s
    exact ⟨p, vs, rfl, .inl (SqL.of e1), fun l hl => q.list s r1 hl⟩
  · simp only [opD, Option.some.injEq] at h; subst h
    obtain ⟨p, vs, rfl, e1, r1⟩ := ha.tup
    exact ⟨p, vs, rfl, .inr ⟨s.sqT e1, q.fr s (.mk_tup e1 r1)⟩⟩
  · simp only [opD, Option.some.injEq] at h; subst h
    obtain ⟨p, vs, rfl, e1, r1⟩ := ha.lst s
    exact ⟨p, vs, rfl, .inl ⟨SqL.of e1, fun l hl => q.tupl s r1 hl⟩⟩
  all_goals
    rename_i xs
    simp only [opD] at h
    cases e : bsD xs with
    | none => rw [e] at h; cases h
    | some bs =>
      rw [e] at h
      simp only [Option.map_some, Option.some.injEq] at h; subst h
      obtain ⟨p, vs, rfl, e1, r1⟩ := ha.lst s
      rw [bsD_map e] at r1
      rw [r1.bls] at e1
      exact ⟨p, bs, rfl, SqL.of e1, q.fr s .scal_bl⟩
theorem op_isT {t : String} {a : D} {x : V} {r : Kd × D} (s : Sub F H) (ha : View g F H a x) (h : opD (.isT t) [a] = some r) (q : Hand g F H Q r) : rel g.K (.isT t) [x, .ty t] H Q := by
  simp only [opD] at h
  cases e : isTD t a with
  | none => rw [e] at h; cases h
  | some c =>
    rw [e] at h
    simp only [Option.map_some, Option.some.injEq] at h; subst h
    have q' := q.fr (v := .bl c) s .scal_bl
    have fin : ∀ ty, tyD a = ty → kitB ty t = some c → TyX g.K H x (.type ty) → rIsi g.K [x, .ty t] H Q := fun ty e1 e2 hx => ⟨x, .ty t, .type ty, .type t, c, rfl, .ty t, hx, kit_ty e2, q'⟩
    cases a with
    | non => cases ha.non; exact fin _ rfl e (.base .non)
    | bl b => cases ha.bl; exact fin _ rfl e (.base (.bl b))
    | int b => cases ha.int; exact fin _ rfl e (.base (.int b))
    | str b => obtain ⟨rfl, _⟩ := ha.str; exact fin _ rfl e (.base (.str b))
    | tup ds =>
      obtain ⟨p, vs, rfl, e1, r1⟩ := ha.tup
      refine fin _ rfl e ?_
      rcases s.sqT e1 with (z | ⟨o, z⟩) | ⟨o, its, n, z1, z2, _⟩
      · exact .base (.tup z)
      · exact .fTuple z
      · exact .kTuple z1 z2
    | lst ds => obtain ⟨p, vs, rfl, e1, r1⟩ := ha.lst s; exact fin _ rfl e (.base (.lst e1))
    | dk ks ds =>
      rcases ha with ha | ⟨p, rfl, vs, e1, _⟩
      · simp only [Rep] at ha
        obtain ⟨p, vs, rfl, e1, _⟩ := ha
        exact fin _ rfl e (.base (.dK (s _ _ e1)))
      · exact fin _ rfl e (.base (.dK e1))
    | dt ks ds =>
      rcases ha with ha | ⟨p, rfl, vs, e1, _⟩
      · simp only [Rep] at ha
        obtain ⟨p, vs, rfl, e1, _⟩ := ha
        exact fin _ rfl e (.base (.dT (s _ _ e1)))
      · exact fin _ rfl e (.base (.dT e1))
    | ins c ns xs => simp [isTD] at e
/-- an operation whose operands are only looked at -/
theorem op_ok {o : Op} {ds : List D} {vs : List V} {r : Kd × D} (hv : o.vm = false) (s : Sub F H) (ha : Views g F H ds vs) (h : opD o ds = some r) (q : Hand g F H Q r) : rel g.K o (vs ++ o.tail) H Q := by
  cases o
  case mkl => simp [Op.vm] at hv
  case mkt => simp [Op.vm] at hv
  case rev => obtain ⟨a, rfl⟩ := one_of h trivial; obtain ⟨x, rfl, hx⟩ := ha.one; exact op_rev s hx h q
  case str => simp [opD] at h
  case isT t =>
    obtain ⟨a, rfl⟩ := one_of h trivial
    obtain ⟨x, rfl, hx⟩ := ha.one
    exact op_isT s hx h q
  case len =>
    obtain ⟨a, rfl⟩ := one_of h trivial
    obtain ⟨x, rfl, hx⟩ := ha.one
    exact op_len s hx h q
  case neg => obtain ⟨a, rfl⟩ := one_of h trivial; obtain ⟨x, rfl, hx⟩ := ha.one; exact op_one s hx h q (by simp)
  case abs => obtain ⟨a, rfl⟩ := one_of h trivial; obtain ⟨x, rfl, hx⟩ := ha.one; exact op_one s hx h q (by simp)
  case int => obtain ⟨a, rfl⟩ := one_of h trivial; obtain ⟨x, rfl, hx⟩ := ha.one; exact op_one s hx h q (by simp)
  case list => obtain ⟨a, rfl⟩ := one_of h trivial; obtain ⟨x, rfl, hx⟩ := ha.one; exact op_one s hx h q (by simp)
  case tuple => obtain ⟨a, rfl⟩ := one_of h trivial; obtain ⟨x, rfl, hx⟩ := ha.one; exact op_one s hx h q (by simp)
  case all => obtain ⟨a, rfl⟩ := one_of h trivial; obtain ⟨x, rfl, hx⟩ := ha.one; exact op_one s hx h q (by simp)
  case any => obtain ⟨a, rfl⟩ := one_of h trivial; obtain ⟨x, rfl, hx⟩ := ha.one; exact op_one s hx h q (by simp)
  case add => obtain ⟨a, b, rfl⟩ := two_of h trivial; obtain ⟨x, y, rfl, hx, hy⟩ := ha.two; exact op_add s hx hy h q
  case mul => obtain ⟨a, b, rfl⟩ := two_of h trivial; obtain ⟨x, y, rfl, hx, hy⟩ := ha.two; exact op_mul s hx hy h q
  case lt => obtain ⟨a, b, rfl⟩ := two_of h trivial; obtain ⟨x, y, rfl, hx, hy⟩ := ha.two; exact op_lt s hx hy h q
  case ix => obtain ⟨a, b, rfl⟩ := two_of h trivial; obtain ⟨x, y, rfl, hx, hy⟩ := ha.two; exact op_ix s hx hy h q
  case sub => obtain ⟨a, b, rfl⟩ := two_of h trivial; obtain ⟨x, y, rfl, hx, hy⟩ := ha.two; exact op_int2 s hx hy h q (by simp)
  case fdv => obtain ⟨a, b, rfl⟩ := two_of h trivial; obtain ⟨x, y, rfl, hx, hy⟩ := ha.two; exact op_int2 s hx hy h q (by simp)
  case mod => obtain ⟨a, b, rfl⟩ := two_of h trivial; obtain ⟨x, y, rfl, hx, hy⟩ := ha.two; exact op_int2 s hx hy h q (by simp)
  case pow => obtain ⟨a, b, rfl⟩ := two_of h trivial; obtain ⟨x, y, rfl, hx, hy⟩ := ha.two; exact op_int2 s hx hy h q (by simp)
  case le => obtain ⟨a, b, rfl⟩ := two_of h trivial; obtain ⟨x, y, rfl, hx, hy⟩ := ha.two; exact op_int2 s hx hy h q (by simp)
  case gt => obtain ⟨a, b, rfl⟩ := two_of h trivial; obtain ⟨x, y, rfl, hx, hy⟩ := ha.two; exact op_int2 s hx hy h q (by simp)
  case ge => obtain ⟨a, b, rfl⟩ := two_of h trivial; obtain ⟨x, y, rfl, hx, hy⟩ := ha.two; exact op_int2 s hx hy h q (by simp)
  case max2 => obtain ⟨a, b, rfl⟩ := two_of h trivial; obtain ⟨x, y, rfl, hx, hy⟩ := ha.two; exact op_int2 s hx hy h q (by simp)
  case eq => obtain ⟨a, b, rfl⟩ := two_of h trivial; obtain ⟨x, y, rfl, hx, hy⟩ := ha.two; exact op_eq2 s hx hy h q (by simp)
  case ne => obtain ⟨a, b, rfl⟩ := two_of h trivial; obtain ⟨x, y, rfl, hx, hy⟩ := ha.two; exact op_eq2 s hx hy h q (by simp)
  case isin => obtain ⟨a, b, rfl⟩ := two_of h trivial; obtain ⟨x, y, rfl, hx, hy⟩ := ha.two; exact op_in2 s hx hy h q (by simp)
  case nin => obtain ⟨a, b, rfl⟩ := two_of h trivial; obtain ⟨x, y, rfl, hx, hy⟩ := ha.two; exact op_in2 s hx hy h q (by simp)
  case isN => obtain ⟨a, b, rfl⟩ := two_of h trivial; obtain ⟨x, y, rfl, hx, hy⟩ := ha.two; exact op_isN2 s hx hy h q (by simp)
  case notN => obtain ⟨a, b, rfl⟩ := two_of h trivial; obtain ⟨x, y, rfl, hx, hy⟩ := ha.two; exact op_isN2 s hx hy h q (by simp)
/-- a display -/
theorem op_mk {o : Op} {ds : List D} {vs : List V} {r : Kd × D} (hv : o.vm = true) (s : Sub F H) (ha : Reps g F ds vs) (h : opD o ds = some r) (q : Hand g F H Q r) : rel g.K o (vs ++ o.tail) H Q := by
  cases o <;> try (simp [Op.vm] at hv; done)
  all_goals
    simp only [opD] at h
    split at h
    · rename_i hl
      simp only [Option.some.injEq] at h; subst h
      refine ⟨by rw [List.length_append, ← ha.length]; exact lim_le hl, fun p hp => ?_⟩
      simp only [Op.tail, List.append_nil]
      first | exact q.list s ha hp | exact q.tupl s ha hp
    · cases h
end
end VI

set_option Elab.async false
set_option linter.all false
set_option maxRecDepth 100000
namespace VI
open PySem PySem.Spec PyProof.Rows L2

def OKx (g : Gm) (b : Bs) (H : Hp) (m : M) (σ : L2.St) (τ : List Tm) (v : V) (d : D) (dx : Addr) (f : Str) : Prop :=
  ∃ F O s, Ok g b F O s H m σ (τ ++ [(v, .fr, d)]) ∧ F dx = some (.xd [(f, v)])
def ExW (g : Gm) (fl : Str → Str) (b : Bs) (W : WX) (σ : L2.St) (τ : List Tm) (c : Str) (d : D) (m : M) : Prop :=
  ∀ v dx H', OKx g b H' m σ τ v d dx (fl c) → W (.ref (g.cl c)) (some dx) σ H'
/-- what is to hold behind r -/
def Aft (g : Gm) (fl : Str → Str) (b : Bs) (W : WX) (σ : L2.St) (τ : List Tm) {α : Type} (r : Rs α) (P : α → M → Prop) : Prop :=
  match r with
  | .no => False
  | .ok a m => P a m
  | .ex c d m => ExW g fl b W σ τ c d m

section
variable {g : Gm} {fl : Str → Str} {b : Bs} {W : WX} {σ : L2.St} {τ ops : List Tm} {m : M} {H : Hp}
theorem OK.pre (h : OK g b H m σ (τ ++ ops)) : OK g b H m σ τ := by obtain ⟨F, O, s, h⟩ := h; exact ⟨F, O, s, h.pre⟩
theorem OKx.pre {v : V} {d : D} {dx : Addr} {f : Str} (h : OKx g b H m σ (τ ++ ops) v d dx f) : OKx g b H m σ τ v d dx f := by
  obtain ⟨F, O, s, h, e⟩ := h
  have t := h.temps (τ ++ ops).length v .fr d (by simp)
  exact ⟨F, O, s, (h.pre.pre).push t, e⟩
theorem ExW.pre {c : Str} {d : D} (h : ExW g fl b W σ τ c d m) : ExW g fl b W σ (τ ++ ops) c d m := fun v dx H' x => h v dx H' x.pre
theorem Aft.bind {α β : Type} {r : Rs α} {f : α → M → Rs β} {P : β → M → Prop} (h : Aft g fl b W σ τ (r.bind f) P) : Aft g fl b W σ τ r fun a m => Aft g fl b W σ τ (f a m) P := by
  cases r with
  | no => exact h
  | ok a m => exact h
  | ex c d m => exact h
theorem Aft.imp {α : Type} {r : Rs α} {P P' : α → M → Prop} (h : Aft g fl b W σ τ r P) (i : ∀ a m, P a m → P' a m) : Aft g fl b W σ τ r P' := by
  cases r with
  | no => exact h
  | ok a m => exact i a m h
  | ex c d m => exact h
theorem Aft.more {α : Type} {r : Rs α} {P : α → M → Prop} (h : Aft g fl b W σ τ r P) : Aft g fl b W σ (τ ++ ops) r P := by
  cases r with
  | no => exact h
  | ok a m => exact h
  | ex c d m => exact ExW.pre h
theorem Aft.ret {α : Type} {o : Option α} {P : α → M → Prop} (h : Aft g fl b W σ τ (retO o m) P) : ∃ a, o = some a ∧ P a m := by
  cases o with
  | none => exact h.elim
  | some a => exact ⟨a, rfl, h⟩
theorem Aft.opt {α β : Type} {o : Option α} {f : α → Rs β} {P : β → M → Prop} (h : Aft g fl b W σ τ (match o with | some a => f a | none => .no) P) : ∃ a, o = some a ∧ Aft g fl b W σ τ (f a) P := by
  cases o with
  | none => exact h.elim
  | some a => exact ⟨a, rfl, h⟩
/-- behind a value -/
def Pv (g : Gm) (b : Bs) (σ : L2.St) (τ : List Tm) (Q : VK) : Kd × D → M → Prop := fun r m' => ∀ v H', OK g b H' m' σ (τ ++ [(v, r.1, r.2)]) → Q v H'
def Pf (g : Gm) (b : Bs) (σ : L2.St) (τ : List Tm) (Q : VK) : D → M → Prop := fun d m' => ∀ v H', OK g b H' m' σ (τ ++ [(v, .fr, d)]) → Q v H'
def tmO (v : V) : Opn → Tm
  | .tmp k d => (v, k, d)
  | .bor _ => (v, .un, .non)
def opv (σ : L2.St) (v : V) : Opn → Prop
  | .tmp k _ => k ≠ .un
  | .bor i => σ[i]? = some (some v)
def Po (g : Gm) (b : Bs) (σ : L2.St) (τ : List Tm) (Q : VK) : Opn → M → Prop := fun x m' => ∀ v H', OK g b H' m' σ (τ ++ [tmO v x]) → opv σ v x → Q v H'
/-- the soundness of one expression -/
def Snd (g : Gm) (fl : Str → Str) (Φ : Nat → Option Fn) (b : Bs) (e : E) : Prop :=
  ∀ (W : WX) (σ : L2.St) (H : Hp) (m : M) (τ : List Tm) (Q : VK), OK g b H m σ τ → Aft g fl b W σ τ (ev Φ e m) (Pv g b σ τ Q) → T g fl Φ e W σ H Q
theorem OK.slot {i : Nat} {k : Kd} {d : D} (h : OK g b H m σ τ) (e : m.ρ[i]? = some (Slot.th k d)) : ∃ v, σ[i]? = some (some v) := by
  obtain ⟨F, O, s, h⟩ := h
  obtain ⟨v, hv, _⟩ := h.slots i k d e
  exact ⟨v, hv⟩
theorem OK.frz {v : V} {k : Kd} {d : D} (h : OK g b H m σ (τ ++ [(v, k, d)])) (hk : k = .fr ∨ k = .ow) : OK g b H m σ (τ ++ [(v, .fr, d)]) := by
  rcases hk with rfl | rfl
  · exact h
  · obtain ⟨F, O, s, h⟩ := h
    obtain ⟨F', O', h'⟩ := h.frz
    exact ⟨F', O', s, h'⟩
end

/-- what comes of an expression is frozen or its own -/
def okK : Kd → Prop | .fr => True | .ow => True | _ => False
theorem retO_ok {α : Type} {o : Option α} {m m' : M} {a : α} (h : retO o m = .ok a m') : o = some a ∧ m' = m := by
  cases o with
  | none => cases h
  | some x => cases h; exact ⟨rfl, rfl⟩
theorem bind_ok {α β : Type} {r : Rs α} {f : α → M → Rs β} {y : β} {m' : M} (h : r.bind f = .ok y m') : ∃ a m1, r = .ok a m1 ∧ f a m1 = .ok y m' := by
  cases r with
  | no => cases h
  | ex => cases h
  | ok a m1 => exact ⟨a, m1, rfl, h⟩
theorem opD_kind {o : Op} {ds : List D} {r : Kd × D} (h : opD o ds = some r) : okK r.1 := by
  unfold opD at h
  split at h <;> first
    | (simp only [Option.some.injEq] at h; subst h; trivial)
    | (split at h <;> first | (simp only [Option.some.injEq] at h; subst h; trivial) | cases h)
    | (simp only [Option.map_eq_some_iff] at h; obtain ⟨_, _, rfl⟩ := h; trivial)
    | (split at h <;> first | (simp only [Option.map_eq_some_iff] at h; obtain ⟨_, _, rfl⟩ := h; trivial) | cases h)
    | cases h
theorem slcD_kind {d : D} {lo hi : Option Int} {r : Kd × D} (h : slcD d lo hi = some r) : okK r.1 := by
  unfold slcD at h
  split at h <;> first
    | (simp only [Option.some.injEq] at h; subst h; trivial)
    | (split at h <;> first | (simp only [Option.some.injEq] at h; subst h; trivial) | cases h)
    | cases h
theorem bmD_kind {mm : Bm} {d : D} {ds : List D} {r : Kd × D} (h : bmD mm d ds = some r) : okK r.1 := by
  unfold bmD at h
  split at h <;> first
    | (split at h <;> first | (split at h <;> first | (simp only [Option.some.injEq] at h; subst h; trivial) | cases h) | cases h)
    | cases h
theorem optb {α β : Type} {o : Option α} {f : α → Option β} {y : β} (h : o.bind f = some y) : ∃ a, o = some a ∧ f a = some y := by
  cases o with
  | none => cases h
  | some a => exact ⟨a, rfl, h⟩
theorem callF_kind {fn : Fn} {ds : List D} {m m' : M} {r : Kd × D} (h : callF fn ds m = .ok r m') : okK r.1 := by
  unfold callF at h
  split at h <;> first | (cases h; done) | skip
  rename_i k d s h1 h2 e
  cases h
  cases k with
  | fr => trivial
  | ow => trivial
  | le => exact (h1 rfl).elim
  | un => exact (h2 rfl).elim
theorem ev_kind (Φ : Nat → Option Fn) : ∀ (e : E) (m : M) (r : Kd × D) (m' : M), ev Φ e m = .ok r m' → okK r.1
  | .var i, m, r, m', h => by
    simp only [ev] at h
    split at h <;> first | (cases h; trivial) | cases h
  | .cst c, m, r, m', h => by
    simp only [ev] at h
    split at h <;> first | (cases h; trivial) | cases h
  | .op o es, m, r, m', h => by
    simp only [ev] at h
    split at h
    · obtain ⟨a, m1, _, h⟩ := bind_ok h
      exact opD_kind (retO_ok h).1
    · obtain ⟨a, m1, _, h⟩ := bind_ok h
      obtain ⟨_, _, h⟩ := optb (retO_ok h).1
      exact opD_kind h
  | .slcL e lo, m, r, m', h => by
    simp only [ev] at h
    obtain ⟨a, m1, _, h⟩ := bind_ok h
    obtain ⟨l, m2, _, h⟩ := bind_ok h
    split at h
    · obtain ⟨_, _, h⟩ := optb (retO_ok h).1; exact slcD_kind h
    · cases h
  | .slcH e lo, m, r, m', h => by
    simp only [ev] at h
    obtain ⟨a, m1, _, h⟩ := bind_ok h
    obtain ⟨l, m2, _, h⟩ := bind_ok h
    split at h
    · obtain ⟨_, _, h⟩ := optb (retO_ok h).1; exact slcD_kind h
    · cases h
  | .slcB e lo hi, m, r, m', h => by
    simp only [ev] at h
    obtain ⟨a, m1, _, h⟩ := bind_ok h
    obtain ⟨l, m2, _, h⟩ := bind_ok h
    split at h
    · obtain ⟨u, m3, _, h⟩ := bind_ok h
      split at h
      · obtain ⟨_, _, h⟩ := optb (retO_ok h).1; exact slcD_kind h
      · cases h
    · cases h
  | .bm mm o es, m, r, m', h => by
    simp only [ev] at h
    obtain ⟨a, m1, _, h⟩ := bind_ok h
    split at h
    · obtain ⟨u, m3, _, h⟩ := bind_ok h
      obtain ⟨_, _, h⟩ := optb (retO_ok h).1; exact bmD_kind h
    · cases h
  | .mut mm i es, m, r, m', h => by
    simp only [ev] at h
    split at h
    · obtain ⟨u, m3, _, h⟩ := bind_ok h
      split at h
      · split at h <;> first | (cases h; trivial) | cases h
      · cases h
    · cases h
  | .andE a b, m, r, m', h => by
    simp only [ev] at h
    obtain ⟨u, m3, _, h⟩ := bind_ok h
    split at h
    · obtain ⟨u, m3, _, h⟩ := bind_ok h; cases h; trivial
    · cases h; trivial
    · cases h
  | .orE a b, m, r, m', h => by
    simp only [ev] at h
    obtain ⟨u, m3, _, h⟩ := bind_ok h
    split at h
    · cases h; trivial
    · obtain ⟨u, m3, _, h⟩ := bind_ok h; cases h; trivial
    · cases h
  | .notE a, m, r, m', h => by
    simp only [ev] at h
    obtain ⟨u, m3, _, h⟩ := bind_ok h
    split at h
    · cases h; trivial
    · cases h
  | .ite c a b, m, r, m', h => by
    simp only [ev] at h
    obtain ⟨t, m3, _, h⟩ := bind_ok h
    split at h
    · exact ev_kind Φ a m3 r m' h
    · exact ev_kind Φ b m3 r m' h
  | .call f es, m, r, m', h => by
    simp only [ev] at h
    split at h
    · obtain ⟨t, m3, _, h⟩ := bind_ok h
      exact callF_kind h
    · cases h
  | .lc k ie tg cond elt vs, m, r, m', h => by
    simp only [ev] at h
    split at h
    · obtain ⟨t, m3, _, h⟩ := bind_ok h
      split at h
      · split at h
        · obtain ⟨t, m3, _, h⟩ := bind_ok h; cases h; trivial
        · cases h
      · cases h
    · cases h

section
variable {g : Gm} {fl : Str → Str} {Φ : Nat → Option Fn} {b : Bs} {W : WX} {σ : L2.St} {τ : List Tm} {m : M} {H : Hp} {Q : VK} {e : E}
theorem Snd.fz (S : Snd g fl Φ b e) (h : OK g b H m σ τ) (a : Aft g fl b W σ τ (frzOf (ev Φ e) m) (Pf g b σ τ Q)) : T g fl Φ e W σ H Q := by
  refine S W σ H m τ Q h ?_
  unfold frzOf at a
  have a' := a.bind
  cases r : ev Φ e m with
  | no => rw [r] at a'; exact a'
  | ex c d m' => rw [r] at a'; exact a'
  | ok x m' =>
    rw [r] at a'
    intro v H' ok
    have hk := ev_kind Φ e m x m' r
    refine a' v H' (ok.frz ?_)
    cases hx : x.1 with
    | fr => exact .inl rfl
    | ow => exact .inr rfl
    | le => rw [hx] at hk; exact hk.elim
    | un => rw [hx] at hk; exact hk.elim
theorem Snd.gen (S : Snd g fl Φ b e) (h : OK g b H m σ τ) (a : Aft g fl b W σ τ ((ev Φ e m).bind fun r m' => .ok (.tmp r.1 r.2) m') (Po g b σ τ Q)) : T g fl Φ e W σ H Q := by
  refine S W σ H m τ Q h ?_
  have a' := a.bind
  cases r : ev Φ e m with
  | no => rw [r] at a'; exact a'
  | ex c d m' => rw [r] at a'; exact a'
  | ok x m' =>
    rw [r] at a'
    intro v H' ok
    have hk := ev_kind Φ e m x m' r
    exact a' v H' ok (fun z => by rw [z] at hk; exact hk)
theorem Snd.opn (S : Snd g fl Φ b e) (h : OK g b H m σ τ) (a : Aft g fl b W σ τ (opnOf e (ev Φ e) m) (Po g b σ τ Q)) : T g fl Φ e W σ H Q := by
  by_cases hv : ∃ i, e = .var i
  · obtain ⟨i, rfl⟩ := hv
    simp only [opnOf] at a
    have key : ∀ k d x, m.ρ[i]? = some (Slot.th k d) → (∀ v F O s, Ok g b F O s H m σ τ → σ[i]? = some (some v) → Thing g b F H O (.sl i) v k d → ∃ F' O', Ok g b F' O' s H m σ (τ ++ [tmO v x]) ∧ opv σ v x) → Po g b σ τ Q x m → T g fl Φ (.var i) W σ H Q := fun k d x e1 e2 p => by
      obtain ⟨F, O, s, h⟩ := h
      obtain ⟨v, hv, t⟩ := h.slots i k d e1
      obtain ⟨F', O', o, q⟩ := e2 v F O s h hv t
      exact ⟨v, hv, p v H ⟨F', O', s, o⟩ q⟩
    split at a
    · rename_i d e1
      exact key .fr d (.tmp .fr d) e1 (fun v F O s o hv t => ⟨F, O, o.push t, by intro z; cases z⟩) a
    · rename_i d e1
      exact key _ d (.bor i) e1 (fun v F O s o hv t => ⟨F, O, o.push trivial, hv⟩) a
    · rename_i d e1
      exact key _ d (.bor i) e1 (fun v F O s o hv t => ⟨F, O, o.push trivial, hv⟩) a
    · exact a.elim
  · refine S.gen h ?_
    cases e <;> first | exact a | exact absurd ⟨_, rfl⟩ hv
end
end VI

set_option Elab.async false
set_option linter.all false
set_option maxRecDepth 100000
namespace VI
open PySem PySem.Spec PyProof.Rows L2

section
variable {g : Gm} {fl : Str → Str} {Φ : Nat → Option Fn} {b : Bs} {W : WX} {σ : L2.St} {τ : List Tm} {m : M} {F F' H H' : Hp} {O : Addr → Option Tag} {s : Addr} {S S' : Addr → Prop}
/-! ### what a call leaves -/
theorem StRel.cells {x : DS} (h : StRel F H O s x) (off : ∀ p t, O p = some t → F p = none ∧ H p ≠ none) : ∃ S, StAt F H s S x ∧ (∀ p, S p → O p = some .st) ∧ ∀ p, S p → ∃ vs, H p = some (.lst vs) := by
  cases x with
  | dr ns sc c =>
    obtain ⟨a, bb, h1, h2, h3, h4, h5, h6⟩ := h
    refine ⟨fun p => p = s ∨ p = a, ⟨a, bb, h1, h2, h3, h6, (off _ _ h4).1, (off _ _ h5).1, fun p => Iff.rfl⟩, ?_, ?_⟩
    · rintro p (rfl | rfl)
      · exact h4
      · exact h5
    · rintro p (rfl | rfl)
      · exact ⟨_, h1⟩
      · exact ⟨_, h2⟩
  | tk ns i c =>
    obtain ⟨a, h1, h2, h4, h5, h6⟩ := h
    refine ⟨fun p => p = s ∨ p = a, ⟨a, h1, h2, h6, (off _ _ h4).1, (off _ _ h5).1, fun p => Iff.rfl⟩, ?_, ?_⟩
    · rintro p (rfl | rfl)
      · exact h4
      · exact h5
    · rintro p (rfl | rfl)
      · exact ⟨_, h1⟩
      · exact ⟨_, h2⟩
theorem StAt.rel {x : DS} (h : StAt F H s S x) (o : ∀ p, S p → O p = some .st) : StRel F H O s x := by
  cases x with
  | dr ns sc c => obtain ⟨a, bb, h1, h2, h3, h6, _, _, q⟩ := h; exact ⟨a, bb, h1, h2, h3, o _ ((q _).mpr (.inl rfl)), o _ ((q _).mpr (.inr rfl)), h6⟩
  | tk ns i c => obtain ⟨a, h1, h2, h6, _, _, q⟩ := h; exact ⟨a, h1, h2, o _ ((q _).mpr (.inl rfl)), o _ ((q _).mpr (.inr rfl)), h6⟩
theorem StAt.off {x : DS} (h : StAt F H s S x) : ∀ p, S p → F p = none ∧ H p ≠ none := by
  cases x with
  | dr ns sc c =>
    obtain ⟨a, bb, h1, h2, h3, h6, f1, f2, q⟩ := h
    intro p hp
    rcases (q p).mp hp with rfl | rfl
    · exact ⟨f1, by rw [h1]; simp⟩
    · exact ⟨f2, by rw [h2]; simp⟩
  | tk ns i c =>
    obtain ⟨a, h1, h2, h6, f1, f2, q⟩ := h
    intro p hp
    rcases (q p).mp hp with rfl | rfl
    · exact ⟨f1, by rw [h1]; simp⟩
    · exact ⟨f2, by rw [h2]; simp⟩
theorem Cell.left {p : Addr} {d : D} (h : Cell g F H p d) (x : Left F H F' H' S) (np : ¬ S p) (nl : ∀ q, S q → ∃ vs, H q = some (.lst vs)) : Cell g F' H' p d :=
  h.mono x.f (fun o e => (x.h p o e np).1) fun dx e n => by
    have ns : ¬ S dx := fun z => by
      obtain ⟨vs, q⟩ := nl dx z
      rw [e] at q; cases q
    have := x.h dx _ e ns
    exact ⟨this.1, this.2 n⟩
theorem Thing.left {O' : Addr → Option Tag} {t : Tag} {v : V} {k : Kd} {d : D} (h : Thing g b F H O t v k d) (x : Left F H F' H' S) (ht : t ≠ .st) (nl : ∀ q, S q → ∃ vs, H q = some (.lst vs)) (so : ∀ p, S p → O p = some .st)
    (new : ∀ p t, O p = some t → (b.H0 p = none ∨ (t = .st ∧ b.S0 p))) (ho : ∀ p, H p ≠ none → ¬ S p → O' p = O p) : Thing g b F' H' O' t v k d := by
  cases k with
  | un => trivial
  | fr => exact Rep.mono x.f h
  | ow =>
    obtain ⟨p, e, o, c⟩ := h
    have np : ¬ S p := fun z => ht (by have := so p z; rw [o] at this; exact Option.some.inj this)
    exact ⟨p, e, by rw [ho p c.has np]; exact o, c.left x np nl⟩
  | le =>
    rcases h with h | ⟨p, e, c, n1, n2, n3⟩
    · exact .inl (Rep.mono x.f h)
    · have np : ¬ S p := fun z => by
        rcases new p _ (so p z) with q | ⟨_, q⟩
        · exact n1 q
        · exact n2 q
      exact .inr ⟨p, e, c.left x np nl, n1, n2, n3⟩
open Classical in
theorem Ok.left {x' : Option DS} (h : Ok g b F O s H m σ τ) (x : Left F H F' H' S) (nl : ∀ q, S q → ∃ vs, H q = some (.lst vs)) (so : ∀ p, S p → O p = some .st) (st' : StMaybe F' H' s S' x') (sn : ∀ p, S' p → S p ∨ H p = none)
    (hs : x' = m.ds ∧ (∀ p, ¬ S p) ∧ (∀ p, ¬ S' p) ∨ ((∀ y, m.ds = some y → StAt F H s S y) ∧ ∀ y, x' = some y → StAt F' H' s S' y)) :
    Ok g b F' (fun p => if S' p then some .st else if S p then none else O p) s H' { m with ds := x' } σ τ := by
  have offS : ∀ p, S' p → F' p = none ∧ H' p ≠ none := fun p hp => by
    cases x' with
    | none => exact absurd hp (st' p)
    | some y => exact StAt.off (show StAt F' H' s S' y from st') p hp
  have ho : ∀ p, H p ≠ none → ¬ S p → (if S' p then some Tag.st else if S p then none else O p) = O p := fun p a c => by
    rw [if_neg (fun z => by
      rcases sn p z with q | q
      · exact c q
      · exact a q), if_neg c]
  refine ⟨x.s, fun p t e => ?_, h.fsub.trans x.f, fun p o e ns => ?_, fun p e => x.e p (h.ex p e), fun p t e => ?_, h.len, fun i k d e => ?_, h.sts, fun i w k d e => ?_, fun y e => ?_, h.so⟩
  · by_cases z : S' p
    · exact offS p z
    · by_cases z2 : S p
      · simp [z, z2] at e
      · simp only [if_neg z, if_neg z2] at e
        obtain ⟨a, c⟩ := h.off p t e
        cases w : H p with
        | none => exact absurd w c
        | some o =>
          have := x.h p o w z2
          exact ⟨this.2 a, by rw [this.1]; simp⟩
  · obtain ⟨a, c⟩ := h.base p o e ns
    have np : ¬ S p := fun z => by
      rcases h.new p _ (so p z) with q | ⟨_, q⟩
      · rw [e] at q; cases q
      · exact ns q
    have := x.h p o a np
    exact ⟨this.1, fun z => this.2 (c z)⟩
  · by_cases z : S' p
    · rw [if_pos z] at e
      cases e
      rcases sn p z with q | q
      · exact h.new p _ (so p q)
      · refine .inl ?_
        cases w : b.H0 p with
        | none => rfl
        | some o => exact absurd q (h.ex p (by rw [w]; simp))
    · by_cases z2 : S p
      · simp [z, z2] at e
      · simp only [if_neg z, if_neg z2] at e
        exact h.new p t e
  · obtain ⟨w, e1, t1⟩ := h.slots i k d e
    exact ⟨w, e1, t1.left x (by intro z; cases z) nl so h.new ho⟩
  · exact (h.temps i w k d e).left x (by intro z; cases z) nl so h.new ho
  · have e' : x' = some y := e
    subst e'
    rcases hs with ⟨e1, n1, n2⟩ | ⟨_, q⟩
    · have e2 := h.stt y e1.symm
      have ok : ∀ p, O p = some Tag.st → (if S' p then some Tag.st else if S p then none else O p) = some Tag.st := fun p z => by rw [if_neg (n2 p), if_neg (n1 p)]; exact z
      cases y with
      | dr ns sc c => obtain ⟨a, bb, h1, h2, h3, h4, h5, h6⟩ := e2; exact ⟨a, bb, (x.h _ _ h1 (n1 _)).1, (x.h _ _ h2 (n1 _)).1, x.f _ _ h3, ok _ h4, ok _ h5, h6⟩
      | tk ns i c => obtain ⟨a, h1, h2, h4, h5, h6⟩ := e2; exact ⟨a, (x.h _ _ h1 (n1 _)).1, (x.h _ _ h2 (n1 _)).1, ok _ h4, ok _ h5, h6⟩
    · exact (q y rfl).rel fun p z => if_pos z
/-- what was made by a call -/
theorem Ok.madeC {O' : Addr → Option Tag} {m' : M} {v : V} {k : Kd} {d : D} (h : Ok g b F' O' s H' m' σ τ) (hx : ∀ p, b.H0 p ≠ none → H p ≠ none) (no : k = .ow → ∀ p, v = .ref p → H p = none → O' p = none) (r : Made g F H F' H' v k d) : ∃ O'', Ok g b F' O'' s H' m' σ (τ ++ [(v, k, d)]) := by
  cases k with
  | le => exact r.elim
  | un => exact r.elim
  | fr => exact ⟨O', h.push r⟩
  | ow =>
    obtain ⟨p, e, hp, hf, c⟩ := r
    have n1 : O' p = none := no rfl p e hp
    have keep : ∀ q t, O' q = some t → (if q = p then some (Tag.tm τ.length) else O' q) = some t := fun q t z => by
      rw [if_neg (fun y => by rw [y, n1] at z; cases z)]; exact z
    have hth : ∀ t w k' d', Thing g b F' H' O' t w k' d' → Thing g b F' H' (fun q => if q = p then some (Tag.tm τ.length) else O' q) t w k' d' := fun t w k' d' x => by
      cases k' with
      | un => trivial
      | fr => exact x
      | ow => obtain ⟨q, e, o, c⟩ := x; exact ⟨q, e, keep q t o, c⟩
      | le => exact x
    refine ⟨fun q => if q = p then some (.tm τ.length) else O' q, Ok.push ⟨h.sub, fun q t z => ?_, h.fsub, h.base, h.ex, fun q t z => ?_, h.len, fun i k d e => ?_, h.sts, fun i w k d e => hth _ _ _ _ (h.temps i w k d e), fun y e => ?_, h.so⟩ ⟨p, e, if_pos rfl, c⟩⟩
    · by_cases y : q = p
      · subst y; exact ⟨hf, c.has⟩
      · simp only [if_neg y] at z; exact h.off q t z
    · by_cases y : q = p
      · subst y
        refine .inl ?_
        cases w : b.H0 q with
        | none => rfl
        | some o => exact absurd hp (hx q (by rw [w]; simp))
      · simp only [if_neg y] at z; exact h.new q t z
    · obtain ⟨w, e1, t1⟩ := h.slots i k d e
      exact ⟨w, e1, hth _ _ _ _ t1⟩
    · have z := h.stt y e
      cases y with
      | dr ns sc c => obtain ⟨a, bb, h1, h2, h3, h4, h5, h6⟩ := z; exact ⟨a, bb, h1, h2, h3, keep _ _ h4, keep _ _ h5, h6⟩
      | tk ns i c => obtain ⟨a, h1, h2, h4, h5, h6⟩ := z; exact ⟨a, h1, h2, keep _ _ h4, keep _ _ h5, h6⟩

theorem callF_sound {fn : Fn} {ds : List D} {vs : List V} {Q : VK} (h : Ok g b F O s H m σ τ) (ha : Args g F H s (fun p => O p ≠ some .st) fn.ps ds vs) (a : Aft g fl b W σ τ (callF fn ds m) (Pv g b σ τ Q)) : spF g fl fn vs H Q (WE W σ) := by
  have key : ∀ (S : Addr → Prop) (x : Option DS), StMaybe F H s S x → (fn.hasSt = false → x = none) → x = (if fn.hasSt then m.ds else none) → (∀ p, S p → O p = some .st) → (∀ q, S q → ∃ vs, H q = some (.lst vs)) → spF g fl fn vs H Q (WE W σ) := by
    intro S x hS h0 hx so nl
    refine ⟨F, s, S, ds, x, h.sub, ha.imp fun p n z => n (so p z), hS, h0, ?_⟩
    unfold callF at a
    rw [← hx] at a
    have step : ∀ F' H' S' x', Left F H F' H' S → StMaybe F' H' s S' x' → (∀ p, S' p → S p ∨ H p = none) → ∃ O', Ok g b F' O' s H' (if fn.hasSt then { m with ds := x' } else m) σ τ ∧ (∀ p, H p = none → ¬ S' p → O' p = none) := by
      intro F' H' S' x' L st sn
      cases hs : fn.hasSt with
      | true =>
        have := h.left L nl so st sn (.inr ⟨fun y e => by
          rw [hs, if_pos rfl] at hx
          rw [hx, e] at hS; exact hS, fun y e => by rw [e] at st; exact st⟩)
        refine ⟨_, by rw [if_pos rfl]; exact this, fun p hp np => ?_⟩
        rw [if_neg np]
        by_cases z : S p
        · rw [if_pos z]
        · rw [if_neg z]
          cases w : O p with
          | none => rfl
          | some t => exact absurd hp (h.off p t w).2
      | false =>
        have n1 : ∀ p, ¬ S p := by rw [h0 hs] at hS; exact hS
        have x : Ext F H F' H' := ⟨L.f, fun p o e => (L.h p o e (n1 p)).1, L.s, fun p a c => by
          cases w : H p with
          | none => exact absurd w a
          | some o => exact (L.h p o w (n1 p)).2 c⟩
        refine ⟨O, by
          simp only [Bool.false_eq_true, if_false]
          exact h.step x (fun _ _ => rfl) fun p t z e => absurd z (h.off p t e).2, fun p hp np => ?_⟩
        cases w : O p with
        | none => rfl
        | some t => exact absurd hp (h.off p t w).2
    cases hr : fn.sem ds x with
    | none => rw [hr] at a; exact a.elim
    | some r =>
      obtain ⟨r, x'⟩ := r
      rw [hr] at a
      cases r with
      | ret k d =>
        intro v F' H' S' L st sn mk ns
        obtain ⟨O', ok, n⟩ := step F' H' S' x' L st sn
        obtain ⟨O'', ok'⟩ := ok.madeC (k := k) (d := d) (v := v) h.ex (fun hk p e hp => n p hp fun z => ns hk p z e) mk
        cases k with
        | le => exact mk.elim
        | un => exact mk.elim
        | fr => exact a v H' ⟨F', O'', s, ok'⟩
        | ow => exact a v H' ⟨F', O'', s, ok'⟩
      | exc c d =>
        intro v dx F' H' S' L st sn mk hd
        obtain ⟨O', ok, _⟩ := step F' H' S' x' L st sn
        exact a v dx H' ⟨F', O', s, ok.push mk, hd⟩
  cases hs : fn.hasSt with
  | false => exact key (fun _ => False) none (fun _ z => z) (fun _ => rfl) (by rw [hs]; rfl) (fun _ z => z.elim) (fun _ z => z.elim)
  | true =>
    cases hd : m.ds with
    | none => exact key (fun _ => False) none (fun _ z => z) (fun _ => rfl) (by rw [hs, hd]; rfl) (fun _ z => z.elim) (fun _ z => z.elim)
    | some x =>
      obtain ⟨S, q1, q2, q3⟩ := (h.stt x hd).cells h.off
      exact key S (some x) q1 (fun z => by rw [hs] at z; cases z) (by rw [hs, hd]; rfl) q2 q3
end
end VI

set_option Elab.async false
set_option linter.all false
set_option maxRecDepth 100000
namespace VI
open PySem PySem.Spec PyProof.Rows L2

def Fz : List V → List D → List Tm
  | v :: vs, d :: ds => (v, .fr, d) :: Fz vs ds
  | _, _ => []
def Oz : List V → List Opn → List Tm
  | v :: vs, x :: xs => tmO v x :: Oz vs xs
  | _, _ => []
def opvs (σ : L2.St) : List Opn → List V → Prop
  | [], vs => vs = []
  | x :: xs, vs => ∃ v ws, vs = v :: ws ∧ opv σ v x ∧ opvs σ xs ws

section
variable {g : Gm} {fl : Str → Str} {Φ : Nat → Option Fn} {b : Bs} {W : WX} {σ : L2.St} {τ ops : List Tm} {m : M} {F F' H H' : Hp} {O : Addr → Option Tag} {s : Addr} {Q : VK}
theorem opn_view {v : V} {x : Opn} {d : D} (h : Ok g b F O s H m σ (τ ++ [tmO v x])) (o : opv σ v x) (e : x.d m = some d) : View g F H d v := by
  cases x with
  | tmp k d' =>
    simp only [Opn.d, Option.some.injEq] at e
    subst e
    exact (h.temps τ.length v k d' (by simp [tmO])).view o
  | bor i =>
    have key : ∀ k d', k ≠ .un → m.ρ[i]? = some (Slot.th k d') → View g F H d' v := fun k d' hk z => by
      obtain ⟨w, hw, t⟩ := h.slots i k d' z
      rw [show σ[i]? = some (some v) from o] at hw
      cases hw
      exact t.view hk
    simp only [Opn.d] at e
    split at e
    · rename_i z; cases e; exact key _ _ (by intro z; cases z) z
    · rename_i z; cases e; exact key _ _ (by intro z; cases z) z
    · rename_i z; cases e; exact key _ _ (by intro z; cases z) z
    · cases e
theorem views_of : ∀ {os : List Opn} {vs : List V} {ds : List D} {τ : List Tm}, Ok g b F O s H m σ (τ ++ Oz vs os) → opvs σ os vs → resO m os = some ds → Views g F H ds vs
  | [], vs, ds, τ, h, o, e => by simp only [resO, Option.some.injEq] at e; subst e; exact o
  | x :: os, vs, ds, τ, h, o, e => by
    obtain ⟨v, ws, rfl, o1, o2⟩ := o
    simp only [resO] at e
    cases e1 : x.d m with
    | none => rw [e1] at e; cases e
    | some d =>
      cases e2 : resO m os with
      | none => rw [e1, e2] at e; cases e
      | some es =>
        rw [e1, e2] at e
        cases e
        have h' : Ok g b F O s H m σ ((τ ++ [tmO v x]) ++ Oz ws os) := by simpa [Oz] using h
        exact ⟨v, ws, rfl, opn_view h'.pre o1 e1, views_of h' o2 e2⟩
theorem reps_of : ∀ {ds : List D} {vs : List V} {τ : List Tm}, Ok g b F O s H m σ (τ ++ Fz vs ds) → vs.length = ds.length → Reps g F ds vs
  | [], vs, τ, h, e => by
    cases vs with
    | nil => exact Reps.nil
    | cons => simp at e
  | d :: ds, vs, τ, h, e => by
    cases vs with
    | nil => simp at e
    | cons v vs =>
      have h' : Ok g b F O s H m σ ((τ ++ [(v, .fr, d)]) ++ Fz vs ds) := by simpa [Fz] using h
      have t := h'.pre.temps τ.length v .fr d (by simp)
      exact Reps.cons t (reps_of h' (by simpa using e))
/-- what an operation makes, handed on -/
theorem hand_of {r : Kd × D} (h : Ok g b F O s H m σ (τ ++ ops)) (q : Pv g b σ τ Q r m) : Hand g F H Q r := fun v F' H' x mk => by
  obtain ⟨O', ok⟩ := h.pre.made x mk
  exact q v H' ⟨F', O', s, ok⟩
theorem trD_ok {d : D} {v : V} {c : Bool} (sub : Sub F H) (h : View g F H d v) (e : trD d = some c) : TruV g.K v H c := by
  cases d with
  | non => cases h.non; simp only [trD, Option.some.injEq] at e; subst e; rfl
  | bl x => cases h.bl; simp only [trD, Option.some.injEq] at e; subst e; rfl
  | int x => cases h.int; simp only [trD, Option.some.injEq] at e; subst e; rfl
  | str x =>
    obtain ⟨rfl, _⟩ := h.str
    simp only [trD] at e
    split at e
    · rename_i hl; cases e; exact ⟨Nat.le_trans hl (by decide), rfl⟩
    · cases e
  | tup xs =>
    obtain ⟨p, vs, rfl, e1, r⟩ := h.tup
    simp only [trD, Option.some.injEq] at e; subst e
    refine .inr (.inl ⟨vs, sub.sqT e1, ?_⟩)
    have := r.length
    cases xs <;> cases vs <;> simp_all
  | lst xs =>
    obtain ⟨p, vs, rfl, e1, r⟩ := h.lst sub
    simp only [trD, Option.some.injEq] at e; subst e
    refine .inl ⟨vs, SqL.of e1, ?_⟩
    have := r.length
    cases xs <;> cases vs <;> simp_all
  | dk ks xs =>
    simp only [trD, Option.some.injEq] at e; subst e
    have key : ∀ p vs, H p = some (.dK (ks.zip vs)) → ks.length = xs.length → Reps g F xs vs → TruV g.K (.ref p) H (!ks.isEmpty) := fun p vs e1 l r => by
      refine .inr (.inr ⟨_, e1, ?_⟩)
      have := r.length
      cases ks <;> cases vs <;> simp_all
    rcases h with h | ⟨p, rfl, vs, e1, l, r⟩
    · simp only [Rep] at h
      obtain ⟨p, vs, rfl, e1, l, r⟩ := h
      exact key p vs (sub _ _ e1) l r
    · exact key p vs e1 l r
  | dt => simp [trD] at e
  | ins => simp [trD] at e
theorem cutD_reps {ds : List D} {vs : List V} {lo hi : Option Int} (r : Reps g F ds vs) : Reps g F (cutD ds lo hi) (cutV vs lo hi) := by
  unfold cutD cutV
  rw [r.length]
  exact (r.drop _).take _
theorem strOk_slice {z : Str} {lo hi : Option Int} (h : PyData.strOk z = true) : PyData.strOk (cutS z lo hi) = true := by
  rw [strOk_iff] at h ⊢
  intro c hc
  refine h c ?_
  simp only [cutS] at hc
  exact List.mem_of_mem_drop (List.mem_of_mem_take hc)
theorem slc_ok {d : D} {v : V} {lo hi : Option Int} {r : Kd × D} (sub : Sub F H) (h : View g F H d v) (e : slcD d lo hi = some r) (q : Hand g F H Q r) : rSlU g.K v lo hi H Q := by
  cases d with
  | lst ds =>
    simp only [slcD, Option.some.injEq] at e; subst e
    obtain ⟨p, vs, rfl, e1, r⟩ := h.lst sub
    exact .inl ⟨p, vs, rfl, SqL.of e1, fun l hl => q.list sub (cutD_reps r) hl⟩
  | tup ds =>
    simp only [slcD, Option.some.injEq] at e; subst e
    obtain ⟨p, vs, rfl, e1, r⟩ := h.tup
    refine .inr (.inl ⟨p, vs, rfl, sub.sqT e1, fun z => ?_, fun _ l hl => q.tupl sub (cutD_reps r) hl⟩)
    have e2 : cutV vs lo hi = vs := by unfold cutV; rw [z.1, z.2]; simp
    have r' := cutD_reps (lo := lo) (hi := hi) r
    rw [e2] at r'
    exact q.fr sub (.mk_tup e1 r')
  | str z =>
    simp only [slcD] at e
    split at e
    · rename_i hl
      simp only [Option.some.injEq] at e; subst e
      obtain ⟨rfl, k⟩ := h.str
      exact .inr (.inr ⟨z, rfl, lim_le hl, q.fr sub (.scal_str (strOk_slice k))⟩)
    · cases e
  | _ => simp [slcD] at e
theorem mem_joinL {S : List Nat} {c : Nat} : ∀ {ps : List (List Nat)}, c ∈ TL.joinL S ps → c ∈ S ∨ ∃ p ∈ ps, c ∈ p
  | [], h => by simp [TL.joinL] at h
  | [p], h => .inr ⟨p, by simp, by simpa [TL.joinL] using h⟩
  | p :: q :: r, h => by
    simp only [TL.joinL, List.mem_append] at h
    rcases h with h | h | h
    · exact .inr ⟨p, by simp, h⟩
    · exact .inl h
    · rcases mem_joinL h with h | ⟨x, hx, h⟩
      · exact .inl h
      · exact .inr ⟨x, List.mem_cons_of_mem _ hx, h⟩
theorem strOk_join {a : Str} {ys : List Str} (ha : PyData.strOk a = true) (hy : ∀ y ∈ ys, PyData.strOk y = true) : PyData.strOk (Txt.join a ys) = true := by
  rw [TL.join_eq, strOk_iff]
  intro c hc
  rw [show (Str.join a ys).cps.toList = TL.joinL a.cps.toList (ys.map TL.tl) from TL.tl_join a ys] at hc
  rcases mem_joinL hc with h | ⟨p, hp, h⟩
  · exact strOk_iff.mp ha c h
  · obtain ⟨y, hy', rfl⟩ := List.mem_map.mp hp
    exact strOk_iff.mp (hy y hy') c h
theorem bm_ok {mm : Bm} {a : Str} {ds : List D} {vs : List V} {r : Kd × D} (sub : Sub F H) (ha : PyData.strOk a = true) (h : Views g F H ds vs) (e : bmD mm (.str a) ds = some r) (q : Hand g F H Q r) : relB g.K mm (.str a) vs H Q := by
  cases mm
  rcases ds with _ | ⟨d, _ | ⟨d2, l⟩⟩ <;> try (simp [bmD] at e; done)
  · obtain ⟨v, rfl, hv⟩ := h.one
    have fin : ∀ ys, (if (ys.map (·.length)).sum + ys.length * a.length ≤ 1000000 then some (Kd.fr, D.str (Txt.join a ys)) else none) = some r → (∀ x ∈ ys, PyData.strOk x = true) → ∀ p, (SqL g.K H p (ys.map V.str) ∨ SqT g.K H p (ys.map V.str)) → relB g.K .join (.str a) [.ref p] H Q := fun ys e ho p hp => by
      split at e
      · rename_i hl
        simp only [Option.some.injEq] at e; subst e
        exact ⟨a, p, ys, rfl, rfl, hp, Nat.le_trans hl (by decide), q.fr sub (.scal_str (strOk_join ha ho))⟩
      · cases e
    cases d <;> try (simp [bmD] at e; done)
    · rename_i xs
      simp only [bmD] at e
      cases e1 : strsD xs with
      | none => rw [e1] at e; cases e
      | some ys =>
        rw [e1] at e
        obtain ⟨p, us, rfl, e2, r⟩ := hv.tup
        rw [strsD_map e1] at r
        obtain ⟨rfl, ho⟩ := r.strs
        exact fin ys e ho p (.inr (sub.sqT e2))
    · rename_i xs
      simp only [bmD] at e
      cases e1 : strsD xs with
      | none => rw [e1] at e; cases e
      | some ys =>
        rw [e1] at e
        obtain ⟨p, us, rfl, e2, r⟩ := hv.lst sub
        rw [strsD_map e1] at r
        obtain ⟨rfl, ho⟩ := r.strs
        exact fin ys e ho p (.inl (SqL.of e2))
theorem seqIndex_of {n : Nat} {i : Int} {j : Nat} (h : ixN n i = some j) (hn : n ≤ lim) : -(2 ^ 63) ≤ i ∧ i < 2 ^ 63 ∧ seqIndex? i n = some j := by
  obtain ⟨a, _, c, d⟩ := ixN_seq h
  refine ⟨?_, ?_, a⟩
  · unfold lim at hn; omega
  · unfold lim at hn; omega
/-- a method that changes the list of slot i -/
theorem mm_ok {mm : Mm} {i : Nat} {xs xs' ds : List D} {vs : List V} {d : D} {v : V} (h : Ok g b F O s H m σ (τ ++ ops)) (hi : m.ρ[i]? = some (Slot.th .ow (.lst xs))) (hv : σ[i]? = some (some v)) (r : Reps g F ds vs) (e : mmD mm xs ds = some (d, xs')) (q : Pv g b σ τ Q (.fr, d) (m.put i (.th .ow (.lst xs')))) :
    relM mm v vs H Q := by
  obtain ⟨w, hw, p, rfl, op, us, e1, r1⟩ := h.slots i _ _ hi
  rw [hv] at hw; cases hw
  have fin : ∀ us' w, Reps g F xs' us' → Rep g F d w → Q w (upd H p (.lst us')) := fun us' w r2 r3 => by
    have ok := h.pre.write (d' := .lst xs') (o := .lst us') hi hv ⟨us', upd_same, r2⟩ (fun x z => by rw [e1] at z; cases z) (fun x z => by cases z)
    exact q w _ ⟨F, O, s, ok.push r3⟩
  cases mm
  · -- append
    rcases ds with _ | ⟨d1, _ | ⟨d2, l⟩⟩ <;> try (simp [mmD] at e; done)
    simp only [mmD] at e
    split at e
    · rename_i hl
      simp only [Option.some.injEq, Prod.mk.injEq] at e
      obtain ⟨rfl, rfl⟩ := e
      obtain ⟨w, ws, rfl, r2, r3⟩ := r.uncons
      simp only [Reps] at r3; subst r3
      exact ⟨p, us, w, rfl, rfl, e1, by rw [← r1.length]; exact Nat.lt_of_lt_of_le hl (by decide), fin _ _ (r1.append (.one r2)) .scal_non⟩
    · cases e
  · -- pop(i)
    rcases ds with _ | ⟨d1, _ | ⟨d2, l⟩⟩ <;> try (simp [mmD] at e; done)
    cases d1 <;> try (simp [mmD] at e; done)
    rename_i j
    simp only [mmD] at e
    cases e2 : ixN xs.length j with
    | none => rw [e2] at e; cases e
    | some k =>
      rw [e2] at e
      simp only at e
      cases e3 : xs[k]? with
      | none => rw [e3] at e; cases e
      | some dk =>
        rw [e3] at e
        simp only at e
        split at e
        · rename_i hl
          simp only [Option.some.injEq, Prod.mk.injEq] at e
          obtain ⟨rfl, rfl⟩ := e
          obtain ⟨w, ws, rfl, r2, r3⟩ := r.uncons
          simp only [Reps] at r3; subst r3
          simp only [Rep] at r2; subst r2
          obtain ⟨y, e4, r4⟩ := r1.get e3
          rw [r1.length] at e2 hl
          obtain ⟨z1, z2, z3⟩ := seqIndex_of e2 hl
          exact ⟨p, us, j, k, y, rfl, rfl, e1, z1, z2, z3, e4, fin _ _ (r1.eraseIdx k) r4⟩
        · cases e
  · -- pop()
    rcases ds with _ | ⟨d1, l⟩ <;> try (simp [mmD] at e; done)
    simp only [mmD] at e
    cases e3 : xs[xs.length - 1]? with
    | none => rw [e3] at e; cases e
    | some dk =>
      rw [e3] at e
      simp only [Option.some.injEq, Prod.mk.injEq] at e
      obtain ⟨rfl, rfl⟩ := e
      simp only [Reps] at r; subst r
      obtain ⟨y, e4, r4⟩ := r1.get e3
      rw [r1.length] at e4
      refine ⟨p, us, y, rfl, rfl, e1, e4, fin _ _ ?_ r4⟩
      rw [List.dropLast_eq_take, List.dropLast_eq_take, r1.length]
      exact r1.take _
  · -- clear
    rcases ds with _ | ⟨d1, l⟩ <;> try (simp [mmD] at e; done)
    simp only [mmD, Option.some.injEq, Prod.mk.injEq] at e
    obtain ⟨rfl, rfl⟩ := e
    simp only [Reps] at r; subst r
    exact ⟨p, us, rfl, rfl, e1, fin _ _ .nil .scal_non⟩
end
end VI

set_option Elab.async false
set_option linter.all false
set_option maxRecDepth 100000
namespace VI
open PySem PySem.Spec PyProof.Rows L2

section
variable {g : Gm} {fl : Str → Str} {Φ : Nat → Option Fn} {b : Bs} {W : WX} {σ : L2.St} {τ ops : List Tm} {m : M} {F F' H H' : Hp} {O : Addr → Option Tag} {s : Addr} {Q : VK}
theorem wipe_in {σ : L2.St} {i : Nat} : ∀ {vs : List Nat}, i ∈ vs → i < σ.length → (wipe σ vs)[i]? = some none
  | [], h, _ => by simp at h
  | v :: vs, h, hl => by
    show ((wipe σ vs).set v none)[i]? = some none
    by_cases e : v = i
    · subst e
      rw [List.getElem?_set_self (by rw [wipe_length]; exact hl)]
    · rw [List.getElem?_set_ne e]
      exact wipe_in (by
        rcases List.mem_cons.mp h with q | q
        · exact absurd q.symm e
        · exact q) hl
theorem wipe_eq {σ σ2 : L2.St} {vs : List Nat} (hl : σ2.length = σ.length) (h : ∀ i, i ∉ vs → σ2[i]? = σ[i]?) : wipe σ2 vs = wipe σ vs := by
  refine List.ext_getElem? fun i => ?_
  by_cases hi : i ∈ vs
  · by_cases l : i < σ.length
    · rw [wipe_in hi l, wipe_in hi (by rw [hl]; exact l)]
    · rw [List.getElem?_eq_none (by rw [wipe_length]; omega), List.getElem?_eq_none (by rw [wipe_length]; omega)]
  · rw [wipe_out hi, wipe_out hi]
    exact h i hi
theorem unset_len (m : M) : ∀ vs : List Nat, (m.unset vs).ρ.length = m.ρ.length
  | [] => rfl
  | v :: vs => by
    show ((m.unset vs).put v .no).ρ.length = _
    simp only [M.put, List.length_set]
    exact unset_len m vs
theorem unset_ds (m : M) : ∀ vs : List Nat, (m.unset vs).ds = m.ds
  | [] => rfl
  | v :: vs => unset_ds m vs
theorem unset_in {m : M} {i : Nat} : ∀ {vs : List Nat}, i ∈ vs → i < m.ρ.length → (m.unset vs).ρ[i]? = some .no
  | [], h, _ => by simp at h
  | v :: vs, h, hl => by
    show ((m.unset vs).ρ.set v .no)[i]? = some .no
    by_cases e : v = i
    · subst e
      rw [List.getElem?_set_self (by rw [unset_len]; exact hl)]
    · rw [List.getElem?_set_ne e]
      exact unset_in (by
        rcases List.mem_cons.mp h with q | q
        · exact absurd q.symm e
        · exact q) hl
theorem unset_out {m : M} {i : Nat} : ∀ {vs : List Nat}, i ∉ vs → (m.unset vs).ρ[i]? = m.ρ[i]?
  | [], _ => rfl
  | v :: vs, h => by
    show ((m.unset vs).ρ.set v .no)[i]? = _
    rw [List.getElem?_set_ne (fun e => h (by rw [e]; exact List.mem_cons_self))]
    exact unset_out fun q => h (List.mem_cons_of_mem _ q)
theorem isNo_iff {i : Nat} : m.isNo i = true ↔ m.ρ[i]? = some .no := by
  unfold M.isNo
  split
  · rename_i h; simp [h]
  · rename_i h; simp; intro q; exact h q

/-! ### targets -/
theorem names_ok {K : L2.St → Hp → Prop} : ∀ {is : List Nat} {ds : List D} {xs : List V} {m m1 : M} {σ : L2.St} {O : Addr → Option Tag}, Ok g b F O s H m σ τ → Reps g F ds xs → bindT is ds m = some m1 →
    (∀ σ1 O', Ok g b F O' s H m1 σ1 τ → σ1.length = σ.length → (∀ i, i ∉ is → σ1[i]? = σ[i]?) → K σ1 H) → gNames is xs σ H K
  | [], ds, xs, m, m1, σ, O, h, r, e, k => by
    cases ds with
    | nil => simp only [bindT, Option.some.injEq] at e; subst e; simp only [Reps] at r; exact ⟨r, k σ O h rfl fun _ _ => rfl⟩
    | cons => simp [bindT] at e
  | i :: is, ds, xs, m, m1, σ, O, h, r, e, k => by
    cases ds with
    | nil => simp [bindT] at e
    | cons d ds =>
      simp only [bindT] at e
      split at e
      · rename_i hl
        obtain ⟨v, ws, rfl, r1, r2⟩ := r.uncons
        obtain ⟨O', h'⟩ := (h.push (k := .fr) (d := d) (v := v) r1).store (by intro z; cases z) hl
        exact ⟨v, ws, rfl, names_ok h' r2 e fun σ1 O1 ok l1 q => k σ1 O1 ok (by rw [l1, List.length_set]) fun j hj => by
          rw [q j fun z => hj (List.mem_cons_of_mem _ z), List.getElem?_set_ne fun z => hj (by rw [z]; exact List.mem_cons_self)]⟩
      · cases e
theorem tgt_ok {K : L2.St → Hp → Prop} {tg : Tgt} {d : D} {x : V} {m1 : M} (h : Ok g b F O s H m σ τ) (r : Rep g F d x) (e : tg.bind d m = some m1)
    (k : ∀ σ1 O', Ok g b F O' s H m1 σ1 τ → σ1.length = σ.length → (∀ i, i ∉ tg.sl → σ1[i]? = σ[i]?) → K σ1 H) : TGt g.K tg x σ H K := by
  cases tg with
  | nm i =>
    simp only [Tgt.bind] at e
    split at e
    · rename_i hl
      cases e
      obtain ⟨O', h'⟩ := (h.push (k := .fr) (d := d) (v := x) r).store (by intro z; cases z) hl
      exact k _ O' h' (by rw [List.length_set]) fun j hj => by rw [List.getElem?_set_ne fun z => hj (by rw [z]; exact List.mem_cons_self)]
    · cases e
  | tp is =>
    cases d with
    | tup ds =>
      simp only [Tgt.bind] at e
      simp only [Rep] at r
      obtain ⟨a, vs, rfl, e1, r⟩ := r
      have hl : is.length = ds.length := by
        have : ∀ (is : List Nat) (ds : List D) (m m1 : M), bindT is ds m = some m1 → is.length = ds.length := by
          intro is
          induction is with
          | nil => intro ds m m1 e; cases ds <;> simp [bindT] at e ⊢
          | cons i is ih =>
            intro ds m m1 e
            cases ds with
            | nil => simp [bindT] at e
            | cons d ds =>
              simp only [bindT] at e
              split at e
              · simp [ih _ _ _ e]
              · cases e
        exact this _ _ _ _ e
      exact ⟨a, vs, rfl, h.sub.sqT e1, by rw [← r.length, hl], names_ok h r e k⟩
    | _ => simp [Tgt.bind] at e

/-! ### what is walked -/
def WalkJ (g : Gm) (b : Bs) (J : It) (n : Nat) (v : V) (x : D) (ds : List D) : Prop :=
  ∀ F O s H' m' σ' τ', Ok g b F O s H' m' σ' τ' → τ'[n]? = some (v, Kd.fr, x) → ∀ i : Nat, (ds.length ≤ i → J.stop i H') ∧ ∀ di, ds[i]? = some di → J.go i H' ∧ ∀ y H2, J.yld i H' y H2 → H2 = H' ∧ Rep g F di y
def wiOf (K : PySem.W.Frag) (k : Itk) (te : TE) : TI := match k with
  | .seq => iSeq K te
  | .rng => iRng1 (tCons te tNil)
  | .str => iStr te
theorem walk_ok {k : Itk} {x : D} {ds : List D} {v : V} {R : It → Hp → Prop} (h : OK g b H m σ (τ ++ [(v, .fr, x)])) (e : walkD k x = some ds) (q : ∀ J, WalkJ g b J τ.length v x ds → R J H) : wiOf g.K k (fun _ _ Q => Q v H) σ H R := by
  obtain ⟨F, O, s, h⟩ := h
  have t : Rep g F x v := h.temps τ.length v .fr x (by simp)
  cases k with
  | seq =>
    cases x <;> try (simp [walkD] at e; done)
    · rename_i xs
      simp only [walkD, Option.some.injEq] at e; subst e
      simp only [Rep] at t
      obtain ⟨a, vs, rfl, e1, r⟩ := t
      refine ⟨a, rfl, .inr ⟨⟨vs, h.sub.sqT e1⟩, q _ fun F O s H' m' σ' τ' ok et i => ?_⟩⟩
      have t' := ok.temps _ _ _ _ et
      have t'' : Rep g F (.tup xs) (.ref a) := t'
      simp only [Rep] at t''
      obtain ⟨a', us, ea, e2, r2⟩ := t''
      cases ea
      refine ⟨fun hl => ⟨us, ok.sub.sqT e2, by rw [← r2.length]; exact hl⟩, fun di hd => ?_⟩
      obtain ⟨y, hy, ry⟩ := r2.get hd
      refine ⟨⟨us, y, ok.sub.sqT e2, hy⟩, fun z H2 yl => ⟨yl.1, ?_⟩⟩
      have := yl.2 us (ok.sub.sqT e2)
      rw [hy] at this
      cases this; exact ry
    · rename_i xs
      simp only [walkD, Option.some.injEq] at e; subst e
      simp only [Rep] at t
      obtain ⟨a, vs, rfl, e1, r⟩ := t
      refine ⟨a, rfl, .inl ⟨⟨vs, SqL.of (h.sub _ _ e1)⟩, q _ fun F O s H' m' σ' τ' ok et i => ?_⟩⟩
      have t' := ok.temps _ _ _ _ et
      have t'' : Rep g F (.lst xs) (.ref a) := t'
      simp only [Rep] at t''
      obtain ⟨a', us, ea, e2, r2⟩ := t''
      cases ea
      have e2' := SqL.of (K := g.K) (ok.sub _ _ e2)
      refine ⟨fun hl => ⟨us, e2', by rw [← r2.length]; exact hl⟩, fun di hd => ?_⟩
      obtain ⟨y, hy, ry⟩ := r2.get hd
      refine ⟨⟨us, y, e2', hy⟩, fun z H2 yl => ⟨yl.1, ?_⟩⟩
      have := yl.2 us e2'
      rw [hy] at this
      cases this; exact ry
  | rng =>
    cases x <;> try (simp [walkD] at e; done)
    rename_i j
    simp only [walkD] at e
    split at e
    · rename_i hj
      simp only [Option.some.injEq] at e; subst e
      simp only [Rep] at t; subst t
      refine ⟨j, rfl, by omega, by omega, q _ fun F O s H' m' σ' τ' ok et i => ⟨fun hl => ?_, fun di hd => ?_⟩⟩
      · show j.toNat ≤ i
        simpa using hl
      · simp only [List.getElem?_map, Option.map_eq_some_iff] at hd
        obtain ⟨c, hc, rfl⟩ := hd
        have hi : i < j.toNat := by
          rcases Nat.lt_or_ge i j.toNat with w | w
          · exact w
          · rw [List.getElem?_eq_none (by simpa using w)] at hc; cases hc
        rw [List.getElem?_range hi] at hc
        cases hc
        refine ⟨hi, fun y H2 yl => ⟨yl.1, ?_⟩⟩
        rw [yl.2]
        exact .scal_int
    · cases e
  | str =>
    cases x <;> try (simp [walkD] at e; done)
    rename_i z
    simp only [walkD, Option.some.injEq] at e; subst e
    simp only [Rep] at t
    obtain ⟨rfl, kz⟩ := t
    refine ⟨z, rfl, q _ fun F O s H' m' σ' τ' ok et i => ⟨fun hl => ?_, fun di hd => ?_⟩⟩
    · show z.cps.size ≤ i
      simpa using hl
    · simp only [List.getElem?_map, Option.map_eq_some_iff] at hd
      obtain ⟨c, hc, rfl⟩ := hd
      have hc' : z.cps[i]? = some c := by simpa using hc
      have hi : i < z.cps.size := by
        rcases Nat.lt_or_ge i z.cps.size with w | w
        · exact w
        · rw [Array.getElem?_eq_none w] at hc'; cases hc'
      refine ⟨hi, fun y H2 yl => ⟨yl.1, ?_⟩⟩
      obtain ⟨c', e1, rfl⟩ := yl.2
      rw [hc'] at e1; cases e1
      exact .scal_str (strOk_one kz (List.mem_of_getElem? hc))

/-! ### a comprehension -/
/-- the last temporary's own cell is written -/
theorem Ok.writeT {d d' : D} {p : Addr} {o : HO} (h : Ok g b F O s H m σ (τ ++ [(.ref p, .ow, d)])) (hc : Cell g F (upd H p o) p d') (hn : ∀ x, H p ≠ some (.own x)) : Ok g b F O s (upd H p o) m σ (τ ++ [(.ref p, .ow, d')]) := by
  obtain ⟨q, e, hp, c⟩ := h.temps τ.length (.ref p) .ow d (by simp)
  cases e
  obtain ⟨hf, _⟩ := h.off p _ hp
  have nw : b.H0 p = none := by
    rcases h.new p _ hp with q | ⟨q, _⟩
    · exact q
    · cases q
  have cellm : ∀ q d, q ≠ p → Cell g F H q d → Cell g F (upd H p o) q d := fun q d hq c => c.mono (Sub.refl F) (fun u e => by rw [upd_ne hq]; exact e) fun dx e n => ⟨by
    rw [upd_ne (fun y => hn q (by rw [← y]; exact e))]; exact e, n⟩
  have hth : ∀ t w k' d', t ≠ .tm τ.length → Thing g b F H O t w k' d' → Thing g b F (upd H p o) O t w k' d' := fun t w k' d' hne x => by
    cases k' with
    | un => trivial
    | fr => exact x
    | ow =>
      obtain ⟨q, e, z, c⟩ := x
      exact ⟨q, e, z, cellm q _ (fun y => hne (by rw [y, hp] at z; exact (Option.some.inj z).symm)) c⟩
    | le =>
      rcases x with x | ⟨q, e, c, n1, n2⟩
      · exact .inl x
      · exact .inr ⟨q, e, cellm q _ (fun y => n1 (by rw [y]; exact nw)) c, n1, n2⟩
  have h0 := h.pre
  refine Ok.push ⟨h.sub.upd o hf, fun q t e => ?_, h.fsub, fun q u e ns => ?_, fun q e => ?_, h.new, h.len, fun j k' d' e => ?_, h.sts, fun j w k' d' e => hth _ _ _ _ (fun z => ?_) (h0.temps j w k' d' e), fun x e => ?_, h.so⟩ ⟨p, rfl, hp, hc⟩
  · obtain ⟨a, c⟩ := h.off q t e
    refine ⟨a, ?_⟩
    by_cases y : q = p
    · subst y; rw [upd_same]; simp
    · rw [upd_ne y]; exact c
  · obtain ⟨a, c⟩ := h.base q u e ns
    exact ⟨by rw [upd_ne (fun y => by rw [y, nw] at e; cases e)]; exact a, c⟩
  · rw [upd_ne (fun y => e (by rw [y]; exact nw))]; exact h.ex q e
  · obtain ⟨w, e1, t1⟩ := h.slots j k' d' e
    exact ⟨w, e1, hth _ _ _ _ (by intro z; cases z) t1⟩
  · cases z
    rw [List.getElem?_eq_none (Nat.le_refl _)] at e; cases e
  · have z := h.stt x e
    have ne : ∀ q, O q = some Tag.st → q ≠ p := fun q z y => by rw [y, hp] at z; cases z
    cases x with
    | dr ns sc c => obtain ⟨a, b, q1, q2, q3, q4, q5, q6⟩ := z; exact ⟨a, b, by rw [upd_ne (ne _ q4)]; exact q1, by rw [upd_ne (ne _ q5)]; exact q2, q3, q4, q5, q6⟩
    | tk ns i c => obtain ⟨a, q1, q2, q4, q5, q6⟩ := z; exact ⟨a, by rw [upd_ne (ne _ q4)]; exact q1, by rw [upd_ne (ne _ q5)]; exact q2, q4, q5, q6⟩
/-- an own temporary takes another place -/
theorem Ok.retag {p : Addr} {d : D} {k : Nat} (h : Ok g b F O s H m σ τ) (hp : O p = some (.tm k)) (hk : τ.length ≤ k) (c : Cell g F H p d) : ∃ O', Ok g b F O' s H m σ (τ ++ [(.ref p, .ow, d)]) := by
  have keep : ∀ q t, t ≠ .tm k → O q = some t → (if q = p then some (Tag.tm τ.length) else O q) = some t := fun q t hne z => by
    rw [if_neg (fun y => by rw [y, hp] at z; exact hne (Option.some.inj z).symm)]; exact z
  have hth : ∀ t w k' d', t ≠ .tm k → Thing g b F H O t w k' d' → Thing g b F H (fun q => if q = p then some (Tag.tm τ.length) else O q) t w k' d' := fun t w k' d' hne x => by
    cases k' with
    | un => trivial
    | fr => exact x
    | ow => obtain ⟨q, e, o, c⟩ := x; exact ⟨q, e, keep q t hne o, c⟩
    | le => exact x
  refine ⟨fun q => if q = p then some (.tm τ.length) else O q, Ok.push ⟨h.sub, fun q t z => ?_, h.fsub, h.base, h.ex, fun q t z => ?_, h.len, fun i k d e => ?_, h.sts, fun i w k' d e => hth _ _ _ _ (fun z => ?_) (h.temps i w k' d e), fun y e => ?_, h.so⟩ ⟨p, rfl, if_pos rfl, c⟩⟩
  · by_cases y : q = p
    · subst y; exact h.off q _ hp
    · simp only [if_neg y] at z; exact h.off q t z
  · by_cases y : q = p
    · subst y
      rcases h.new q _ hp with w | ⟨w, _⟩
      · exact .inl w
      · cases w
    · simp only [if_neg y] at z; exact h.new q t z
  · obtain ⟨w, e1, t1⟩ := h.slots i k d e
    exact ⟨w, e1, hth _ _ _ _ (by intro z; cases z) t1⟩
  · cases z
    rw [List.getElem?_eq_none hk] at e; cases e
  · have z := h.stt y e
    cases y with
    | dr ns sc c => obtain ⟨a, bb, h1, h2, h3, h4, h5, h6⟩ := z; exact ⟨a, bb, h1, h2, h3, keep _ _ (by intro z; cases z) h4, keep _ _ (by intro z; cases z) h5, h6⟩
    | tk ns i c => obtain ⟨a, h1, h2, h4, h5, h6⟩ := z; exact ⟨a, h1, h2, keep _ _ (by intro z; cases z) h4, keep _ _ (by intro z; cases z) h5, h6⟩
def SndT (g : Gm) (fl : Str → Str) (b : Bs) (ev' : M → Rs Bool) (tt : WX → TT) : Prop :=
  ∀ (W : WX) (σ : L2.St) (H : Hp) (m : M) (τ : List Tm) (Q : Bool → Hp → Prop), OK g b H m σ τ → Aft g fl b W σ τ (ev' m) (fun c m' => ∀ H', OK g b H' m' σ τ → Q c H') → tt W σ H Q
/-- the loop of a comprehension, from what it walks -/
theorem lc_ok {J : It} {x : D} {ds : List D} {v : V} {tg : Tgt} {vs : List Nat} {tt : WX → TT} {fc : M → Rs Bool} {elt : E}
    (Sc : SndT g fl b fc tt) (Se : Snd g fl Φ b elt) (wj : WalkJ g b J τ.length v x ds) (htg : tg.sl.all (fun i => vs.contains i) = true) (h : OK g b H m σ (τ ++ [(v, .fr, x)])) (hno : vs.all m.isNo = true)
    (a : Aft g fl b W σ τ ((lcRun tg vs fc (frzOf (ev Φ elt)) ds m []).bind fun ys m2 => .ok (Kd.ow, D.lst ys) m2) (Pv g b σ τ Q)) :
    ∀ Da, H Da = none → ∃ Wv : Nat → Nat → Hp → Prop, (∃ mm, Wv 0 mm (upd H Da (.lst []))) ∧ ∀ i mm H, Wv i mm H →
      (J.stop i H ∧ Q (.ref Da) H) ∨ (J.go i H ∧ ∃ Nx : Hp → Prop, (∀ H', Nx H' → ∃ m', m' < mm ∧ Wv (i + 1) m' H') ∧ ∀ x H', J.yld i H x H' → TGt g.K tg x (wipe σ vs) H' fun σ2 H2 => wipe σ2 vs = wipe σ vs ∧ tt W0 σ2 H2 fun c H3 =>
        if c = true then T g fl Φ elt W0 σ2 H3 fun y H4 => ∃ acc, H4 Da = some (.lst acc) ∧ acc.length < sizeLine ∧ Nx (upd H4 Da (.lst (acc ++ [y]))) else Nx H3) := by
  intro Da hDa
  have hin : ∀ i, i ∈ tg.sl → i ∈ vs := fun i hi => by
    have := List.all_eq_true.mp htg i hi
    simpa using this
  have hnos : ∀ {m : M}, vs.all m.isNo = true → ∀ i, i ∈ vs → m.ρ[i]? = some .no := fun hm i hi => isNo_iff.mp (List.all_eq_true.mp hm i hi)
  let Wv : Nat → Nat → Hp → Prop := fun i mm H' => i ≤ ds.length ∧ mm = ds.length - i ∧ ∃ mi acc, OK g b H' mi σ ((τ ++ [(v, .fr, x)]) ++ [(.ref Da, .ow, .lst acc)]) ∧ vs.all mi.isNo = true ∧
    Aft g fl b W σ τ ((lcRun tg vs fc (frzOf (ev Φ elt)) (ds.drop i) mi acc).bind fun ys m2 => .ok (Kd.ow, D.lst ys) m2) (Pv g b σ τ Q)
  refine ⟨Wv, ⟨ds.length, Nat.zero_le _, rfl, m, [], ?_, hno, by simpa using a⟩, ?_⟩
  · obtain ⟨F, O, s, h⟩ := h
    obtain ⟨O', h'⟩ := h.made (k := .ow) (d := .lst []) (v := .ref Da) (Ext.list h.sub hDa (.lst [])) ⟨Da, rfl, hDa, (by
      cases e : F Da with
      | none => rfl
      | some u => rw [h.sub _ _ e] at hDa; cases hDa), [], upd_same, .nil⟩
    exact ⟨F, O', s, h'⟩
  · rintro i mm H1 ⟨hi, rfl, mi, acc, ok, hn, a⟩
    rcases Nat.lt_or_ge i ds.length with hl | hl
    · right
      have hd : ds[i]? = some ds[i] := List.getElem?_eq_getElem hl
      have hdrop : ds.drop i = ds[i] :: ds.drop (i + 1) := List.drop_eq_getElem_cons hl
      rw [hdrop] at a
      generalize ds[i] = di at hd a
      obtain ⟨F, O, s, ok⟩ := ok
      have et : ((τ ++ [(v, Kd.fr, x)]) ++ [(V.ref Da, Kd.ow, D.lst acc)])[τ.length]? = some (v, Kd.fr, x) := by simp
      obtain ⟨hgo, hy⟩ := (wj F O s H1 mi σ _ ok et i).2 di hd
      refine ⟨hgo, fun H' => Wv (i + 1) (ds.length - (i + 1)) H', fun H' w => ⟨_, by omega, w⟩, fun y H' yl => ?_⟩
      obtain ⟨rfl, ry⟩ := hy y H' yl
      simp only [lcRun] at a
      -- the target
      have okw : Ok g b F O s H' mi (wipe σ vs) ((τ ++ [(v, .fr, x)]) ++ [(.ref Da, .ow, .lst acc)]) := ok.weak rfl (by rw [wipe_length]; exact ok.len) fun j z e => by
        by_cases hj : j ∈ vs
        · rw [hnos hn j hj] at e; exact .inl (Option.some.inj e).symm
        · exact .inr ⟨e, wipe_out hj⟩
      cases eb : tg.bind di mi with
      | none => rw [eb] at a; exact a.elim
      | some m1 =>
        rw [eb] at a
        refine tgt_ok okw ry eb fun σ1 O1 ok1 l1 out1 => ?_
        have out : ∀ j, j ∉ vs → σ1[j]? = σ[j]? := fun j hj => (out1 j fun z => hj (hin j z)).trans (wipe_out hj)
        have l1' : σ1.length = σ.length := by rw [l1, wipe_length]
        refine ⟨wipe_eq l1' out, ?_⟩
        -- back behind a turn
        have back : ∀ (m3 : M) (acc' : List D) (H3 : Hp), OK g b H3 m3 σ1 ((τ ++ [(v, .fr, x)]) ++ [(.ref Da, .ow, .lst acc')]) → Aft g fl b W σ τ ((lcRun tg vs fc (frzOf (ev Φ elt)) (ds.drop (i + 1)) (m3.unset vs) acc').bind fun ys m2 => .ok (Kd.ow, D.lst ys) m2) (Pv g b σ τ Q) → Wv (i + 1) (ds.length - (i + 1)) H3 := fun m3 acc' H3 ok3 a3 => by
          obtain ⟨F3, O3, s3, ok3⟩ := ok3
          have lm : vs.all (m3.unset vs).isNo = true := List.all_eq_true.mpr fun j hj => isNo_iff.mpr (by
            refine unset_in hj ?_
            have h1 : σ1.length = m3.ρ.length := ok3.len
            have h2 : σ.length = mi.ρ.length := ok.len
            have h3 := hnos hn j hj
            have h4 : j < mi.ρ.length := by
              rcases Nat.lt_or_ge j mi.ρ.length with w | w
              · exact w
              · rw [List.getElem?_eq_none w] at h3; cases h3
            omega)
          refine ⟨hl, rfl, m3.unset vs, acc', ⟨F3, O3, s3, ok3.weak (unset_ds m3 vs) (by rw [unset_len, ← ok3.len, l1']) fun j z e => ?_⟩, lm, a3⟩
          by_cases hj : j ∈ vs
          · have := isNo_iff.mp (List.all_eq_true.mp lm j hj)
            rw [this] at e; exact .inl (Option.some.inj e).symm
          · rw [unset_out hj] at e
            exact .inr ⟨e, (out j hj).symm⟩
        -- the tests
        refine Sc W0 σ1 H' m1 _ _ ⟨F, O1, s, ok1⟩ ?_
        simp only at a
        cases ec : fc m1 with
        | no => rw [ec] at a; exact a.elim
        | ex c d m2 => rw [ec] at a; exact a.elim
        | ok c m2 =>
          rw [ec] at a
          intro H3 ok3
          cases c with
          | false =>
            rw [if_neg (by intro z; cases z)]
            exact back m2 acc H3 ok3 a
          | true =>
            rw [if_pos rfl]
            refine Se.fz (W := W0) ok3 ?_
            simp only at a
            cases ee : frzOf (ev Φ elt) m2 with
            | no => rw [ee] at a; exact a.elim
            | ex c d m3 => rw [ee] at a; exact a.elim
            | ok dy m3 =>
              rw [ee] at a
              intro y H4 ok4
              simp only at a
              split at a
              · rename_i hacc
                obtain ⟨F4, O4, s4, ok4⟩ := ok4
                have ty : Rep g F4 dy y := ok4.temps _ y .fr dy (by rw [List.getElem?_append_right (Nat.le_refl _)]; simp)
                obtain ⟨p, ep, _, us, e1, r1⟩ := ok4.pre.temps (τ ++ [(v, Kd.fr, x)]).length (.ref Da) .ow (.lst acc) (by rw [List.getElem?_append_right (Nat.le_refl _)]; simp)
                cases ep
                refine ⟨us, e1, by rw [← r1.length]; exact Nat.lt_of_lt_of_le hacc (by decide), ?_⟩
                exact back m3 (acc ++ [dy]) _ ⟨F4, O4, s4, ok4.pre.writeT (d' := .lst (acc ++ [dy])) ⟨_, upd_same, r1.append (.one ty)⟩ (fun x z => by rw [e1] at z; cases z)⟩ a
              · exact a.elim
    · left
      have e0 : ds.drop i = [] := List.drop_eq_nil_of_le hl
      rw [e0] at a
      simp only [lcRun] at a
      have hend := a
      obtain ⟨F, O, s, ok⟩ := ok
      have et : ((τ ++ [(v, Kd.fr, x)]) ++ [(V.ref Da, Kd.ow, D.lst acc)])[τ.length]? = some (v, Kd.fr, x) := by simp
      refine ⟨(wj F O s H1 mi σ _ ok et i).1 hl, ?_⟩
      have t := ok.temps (τ ++ [(v, Kd.fr, x)]).length (.ref Da) .ow (.lst acc) (by rw [List.getElem?_append_right (Nat.le_refl _)]; simp)
      obtain ⟨p, ep, op, c⟩ := t
      cases ep
      -- the list moves to its place
      obtain ⟨O', ok'⟩ := ok.pre.pre.retag op (by simp) c
      exact hend (.ref Da) H1 ⟨F, O', s, ok'⟩
end
end VI

set_option Elab.async false
set_option linter.all false
set_option maxRecDepth 100000
namespace VI
open PySem PySem.Spec PyProof.Rows L2

section
variable {g : Gm} {fl : Str → Str} {Φ : Nat → Option Fn} {b : Bs}
theorem Aft.opnd {W : WX} {σ : L2.St} {τ : List Tm} {m : M} {α : Type} {o : Option α} {P : α → M → Prop} (h : Aft g fl b W σ τ (retO o m) P) : ∃ a, o = some a ∧ P a m := h.ret
def SndV (g : Gm) (fl : Str → Str) (Φ : Nat → Option Fn) (b : Bs) (es : List E) : Prop :=
  ∀ (W : WX) (σ : L2.St) (H : Hp) (m : M) (τ : List Tm) (cs : List V) (Q : List V → Hp → Prop), OK g b H m σ τ → Aft g fl b W σ τ (evVs Φ es m) (fun ds m' => ∀ vs H', OK g b H' m' σ (τ ++ Fz vs ds) → vs.length = ds.length → Q (vs ++ cs) H') → TL g fl Φ es cs W σ H Q
def SndO (g : Gm) (fl : Str → Str) (Φ : Nat → Option Fn) (b : Bs) (es : List E) : Prop :=
  ∀ (W : WX) (σ : L2.St) (H : Hp) (m : M) (τ : List Tm) (cs : List V) (Q : List V → Hp → Prop), OK g b H m σ τ → Aft g fl b W σ τ (evOs Φ es m) (fun os m' => ∀ vs H', OK g b H' m' σ (τ ++ Oz vs os) → opvs σ os vs → Q (vs ++ cs) H') → TL g fl Φ es cs W σ H Q
def SndA (g : Gm) (fl : Str → Str) (Φ : Nat → Option Fn) (b : Bs) (es : List E) : Prop :=
  ∀ (ps : List Pm) (W : WX) (σ : L2.St) (H : Hp) (m : M) (τ : List Tm) (Q : List V → Hp → Prop), OK g b H m σ τ → Aft g fl b W σ τ (evAs Φ ps es m) (fun ds m' => ∀ vs F O s H', Ok g b F O s H' m' σ τ → Args g F H' s (fun p => O p ≠ some .st) ps ds vs → Q vs H') → TL g fl Φ es [] W σ H Q

theorem Thing.lent {F H : Hp} {O : Addr → Option Tag} {t : Tag} {v : V} {k : Kd} {d : D} (h : Thing g b F H O t v k d) (hk : k ≠ .un) (ht : t ≠ .st) (nw : ∀ p t, O p = some t → (b.H0 p = none ∨ (t = .st ∧ b.S0 p))) (hi : k = .ow → ∀ c ns xs, d ≠ .ins c ns xs) : Lent g F H (fun p => O p ≠ some .st) d v := by
  cases k with
  | un => exact absurd rfl hk
  | fr => exact .inl h
  | ow =>
    obtain ⟨p, e, o, c⟩ := h
    exact .inr ⟨p, e, c, fun z => ht (by rw [o] at z; exact Option.some.inj z), hi rfl⟩
  | le =>
    rcases h with h | ⟨p, e, c, n1, n2, n3⟩
    · exact .inl h
    · exact .inr ⟨p, e, c, fun z => by
        rcases nw p _ z with q | ⟨_, q⟩
        · exact n1 q
        · exact n2 q, n3⟩
theorem opn_lent {F H : Hp} {O : Addr → Option Tag} {s : Addr} {m : M} {σ : L2.St} {τ : List Tm} {v : V} {x : Opn} {d : D} (h : Ok g b F O s H m σ (τ ++ [tmO v x])) (o : opv σ v x) (e : x.d m = some d) (hl : leOk x d = true) : Lent g F H (fun p => O p ≠ some .st) d v := by
  cases x with
  | tmp k d' =>
    simp only [Opn.d, Option.some.injEq] at e
    subst e
    refine (h.temps τ.length v k d' (by simp [tmO])).lent o (by intro z; cases z) h.new fun z c ns xs y => ?_
    subst z y
    simp [leOk] at hl
  | bor i =>
    have hi : ∀ c ns xs, d ≠ .ins c ns xs := fun c ns xs y => by subst y; simp [leOk] at hl
    have key : ∀ k d', k ≠ .un → (∀ c ns xs, d' ≠ .ins c ns xs) → m.ρ[i]? = some (Slot.th k d') → Lent g F H (fun p => O p ≠ some .st) d' v := fun k d' hk hi z => by
      obtain ⟨w, hw, t⟩ := h.slots i k d' z
      rw [show σ[i]? = some (some v) from o] at hw
      cases hw
      exact t.lent hk (by intro z; cases z) h.new fun _ => hi
    simp only [Opn.d] at e
    split at e
    · rename_i z; cases e; exact key _ _ (by intro z; cases z) hi z
    · rename_i z; cases e; exact key _ _ (by intro z; cases z) hi z
    · rename_i z; cases e; exact key _ _ (by intro z; cases z) hi z
    · cases e
theorem sndV_cons {e : E} {es : List E} (S : Snd g fl Φ b e) (Ss : SndV g fl Φ b es) : SndV g fl Φ b (e :: es) := by
  intro W σ H m τ cs Q h a
  show T g fl Φ e W σ H fun x H1 => TL g fl Φ es cs W σ H1 fun xs H2 => Q (x :: xs) H2
  simp only [evVs] at a
  refine S.fz h (a.bind.imp fun d m1 a1 v H1 ok1 => ?_)
  refine Ss W σ H1 m1 _ cs _ ok1 ((a1.more (ops := [(v, .fr, d)])).bind.imp fun ds m2 a2 vs H2 ok2 l2 => ?_)
  exact a2 (v :: vs) H2 (by simpa [Fz] using ok2) (by simp [l2])
theorem sndV_nil : SndV g fl Φ b [] := by
  intro W σ H m τ cs Q h a
  exact a [] H (by simpa [Fz] using h) rfl
theorem sndO_cons {e : E} {es : List E} (S : Snd g fl Φ b e) (Ss : SndO g fl Φ b es) : SndO g fl Φ b (e :: es) := by
  intro W σ H m τ cs Q h a
  show T g fl Φ e W σ H fun x H1 => TL g fl Φ es cs W σ H1 fun xs H2 => Q (x :: xs) H2
  simp only [evOs] at a
  refine S.opn h (a.bind.imp fun x m1 a1 v H1 ok1 o1 => ?_)
  refine Ss W σ H1 m1 _ cs _ ok1 ((a1.more (ops := [tmO v x])).bind.imp fun xs m2 a2 vs H2 ok2 o2 => ?_)
  exact a2 (v :: vs) H2 (by simpa [Oz] using ok2) ⟨v, vs, rfl, o1, o2⟩
theorem sndO_nil : SndO g fl Φ b [] := by
  intro W σ H m τ cs Q h a
  exact a [] H (by simpa [Oz] using h) rfl
theorem sndA_nil : SndA g fl Φ b [] := by
  intro ps W σ H m τ Q h a
  obtain ⟨F, O, s, h⟩ := h
  cases ps with
  | nil => exact a [] F O s H h ⟨rfl, rfl⟩
  | cons p ps => cases p <;> (simp only [evAs] at a; exact a.elim)
theorem sndA_cons {e : E} {es : List E} (S : Snd g fl Φ b e) (Ss : SndA g fl Φ b es) : SndA g fl Φ b (e :: es) := by
  intro ps W σ H m τ Q h a
  show T g fl Φ e W σ H fun x H1 => TL g fl Φ es [] W σ H1 fun xs H2 => Q (x :: xs) H2
  cases ps with
  | nil => simp only [evAs] at a; exact a.elim
  | cons p ps =>
    cases p with
    | vl =>
      simp only [evAs] at a
      refine S.fz h (a.bind.imp fun d m1 a1 v H1 ok1 => ?_)
      refine Ss ps W σ H1 m1 _ _ ok1 ((a1.more (ops := [(v, .fr, d)])).bind.imp fun ds m2 a2 vs F O s H2 ok2 ha => ?_)
      exact a2 (v :: vs) F O s H2 ok2.pre ⟨d, ds, v, vs, rfl, rfl, ok2.temps τ.length v .fr d (by simp), ha⟩
    | le =>
      simp only [evAs] at a
      refine S.opn h (a.bind.imp fun x m1 a1 v H1 ok1 o1 => ?_)
      refine Ss ps W σ H1 m1 _ _ ok1 ((a1.more (ops := [tmO v x])).bind.imp fun ds m2 a2 vs F O s H2 ok2 ha => ?_)
      cases ed : x.d m2 with
      | none => rw [ed] at a2; exact a2.elim
      | some d =>
        rw [ed] at a2
        simp only at a2
        split at a2
        · rename_i hle
          exact a2 (v :: vs) F O s H2 ok2.pre ⟨d, ds, v, vs, rfl, rfl, opn_lent ok2 o1 ed hle, ha⟩
        · exact a2.elim
    | st =>
      cases e <;> try (simp only [evAs] at a; exact a.elim)
      rename_i i
      simp only [evAs] at a
      split at a
      · rename_i hs
        obtain ⟨F, O, s, h⟩ := h
        refine ⟨.ref s, h.sts i hs, ?_⟩
        refine Ss ps W σ H m τ _ ⟨F, O, s, h⟩ (a.bind.imp fun ds m2 a2 vs F2 O2 s2 H2 ok2 ha => ?_)
        split at a2
        · rename_i hs2
          have e1 := h.sts i hs
          rw [ok2.sts i hs2] at e1
          cases e1
          exact a2 (.ref s :: vs) F2 O2 s H2 ok2 ⟨vs, rfl, ha⟩
        · exact a2.elim
      · exact a.elim
end
end VI

set_option Elab.async false
set_option linter.all false
set_option maxRecDepth 100000
namespace VI
open PySem PySem.Spec PyProof.Rows L2

section
variable {g : Gm} {fl : Str → Str} {Φ : Nat → Option Fn} {b : Bs}
abbrev SndT' (g : Gm) (fl : Str → Str) (Φ : Nat → Option Fn) (b : Bs) (e : E) : Prop := SndT g fl b (evT Φ e) (TT' g fl Φ e)

theorem snd_var {i : Nat} : Snd g fl Φ b (.var i) := by
  intro W σ H m τ Q h a
  simp only [ev] at a
  split at a
  · rename_i d e
    obtain ⟨F, O, s, h⟩ := h
    obtain ⟨v, hv, t⟩ := h.slots i _ _ e
    exact ⟨v, hv, a v H ⟨F, O, s, h.push t⟩⟩
  · rename_i d e
    obtain ⟨F, O, s, h⟩ := h
    obtain ⟨v, hv, _⟩ := h.slots i _ _ e
    obtain ⟨F', O', h'⟩ := h.frzS e
    have hl : i < m.ρ.length := by
      rcases Nat.lt_or_ge i m.ρ.length with w | w
      · exact w
      · rw [List.getElem?_eq_none w] at e; cases e
    obtain ⟨v', hv', t⟩ := h'.slots i .fr d (by simp [M.put, List.getElem?_set_self hl])
    rw [hv] at hv'; cases hv'
    exact ⟨v, hv, a v H ⟨F', O', s, h'.push t⟩⟩
  · exact a.elim
theorem snd_cst {c : C} : Snd g fl Φ b (.cst c) := by
  intro W σ H m τ Q h a
  simp only [ev] at a
  split at a
  · rename_i hc
    obtain ⟨F, O, s, h⟩ := h
    refine a c.v H ⟨F, O, s, h.push ?_⟩
    cases c with
    | non => exact (Rep.scal_non : Rep g F .non .non)
    | bl x => exact (Rep.scal_bl : Rep g F (.bl x) (.bl x))
    | int x => exact (Rep.scal_int : Rep g F (.int x) (.int x))
    | str x => exact (Rep.scal_str hc : Rep g F (.str x) (.str x))
  · exact a.elim
theorem snd_op {o : Op} {es : List E} (Sv : SndV g fl Φ b es) (So : SndO g fl Φ b es) : Snd g fl Φ b (.op o es) := by
  intro W σ H m τ Q h a
  show TL g fl Φ es o.tail W σ H fun vs H1 => rel g.K o vs H1 Q
  simp only [ev] at a
  split at a
  · rename_i hv
    refine Sv W σ H m τ _ _ h (a.bind.imp fun ds m1 a1 vs H1 ok l => ?_)
    obtain ⟨r, e, p⟩ := a1.ret
    obtain ⟨F, O, s, ok⟩ := ok
    exact op_mk hv ok.sub (reps_of ok l) e (hand_of ok p)
  · rename_i hv
    refine So W σ H m τ _ _ h (a.bind.imp fun os m1 a1 vs H1 ok l => ?_)
    obtain ⟨r, e, p⟩ := a1.ret
    obtain ⟨ds, e1, e⟩ := optb e
    obtain ⟨F, O, s, ok⟩ := ok
    exact op_ok (by simpa using hv) ok.sub (views_of ok l e1) e (hand_of ok p)
theorem int_tmp {F : Hp} {O : Addr → Option Tag} {s : Addr} {H : Hp} {m : M} {σ : L2.St} {τ : List Tm} {v : V} {k : Kd} {i : Int} (h : Ok g b F O s H m σ (τ ++ [(v, k, .int i)])) (hk : okK k) : v = .int i := by
  have t := h.temps τ.length v k (.int i) (by simp)
  exact (t.view (by intro z; subst z; exact hk)).int
theorem snd_slcL {e lo : E} (Se : Snd g fl Φ b e) (Sl : Snd g fl Φ b lo) : Snd g fl Φ b (.slcL e lo) := by
  intro W σ H m τ Q h a
  show T g fl Φ e W σ H fun x H1 => T g fl Φ lo W σ H1 fun y H2 => ∃ i, y = .int i ∧ rSlU g.K x (some i) none H2 Q
  simp only [ev] at a
  refine Se.opn h (a.bind.imp fun x m1 a1 v H1 ok1 o1 => ?_)
  refine Sl W σ H1 m1 _ _ ok1 ?_
  have a2 := (a1.more (ops := [tmO v x])).bind
  cases r : ev Φ lo m1 with
  | no => rw [r] at a2; exact a2
  | ex c d m2 => rw [r] at a2; exact a2
  | ok l m2 =>
    rw [r] at a2
    intro w H2 ok2
    have hk := ev_kind Φ lo m1 l m2 r
    obtain ⟨k, d⟩ := l
    obtain ⟨F, O, s, ok2⟩ := ok2
    cases d <;> try (exact a2.elim)
    rename_i i
    obtain ⟨r, e3, p⟩ := a2.ret
    obtain ⟨d, e1, e3⟩ := optb e3
    have ok3 : Ok g b F O s H2 m2 σ (τ ++ ([tmO v x] ++ [(w, k, D.int i)])) := by simpa using ok2
    exact ⟨i, int_tmp ok2 hk, slc_ok ok2.sub (opn_view ok2.pre o1 e1) e3 (hand_of ok3 p)⟩
theorem snd_slcH {e lo : E} (Se : Snd g fl Φ b e) (Sl : Snd g fl Φ b lo) : Snd g fl Φ b (.slcH e lo) := by
  intro W σ H m τ Q h a
  show T g fl Φ e W σ H fun x H1 => T g fl Φ lo W σ H1 fun y H2 => ∃ i, y = .int i ∧ rSlU g.K x none (some i) H2 Q
  simp only [ev] at a
  refine Se.opn h (a.bind.imp fun x m1 a1 v H1 ok1 o1 => ?_)
  refine Sl W σ H1 m1 _ _ ok1 ?_
  have a2 := (a1.more (ops := [tmO v x])).bind
  cases r : ev Φ lo m1 with
  | no => rw [r] at a2; exact a2
  | ex c d m2 => rw [r] at a2; exact a2
  | ok l m2 =>
    rw [r] at a2
    intro w H2 ok2
    have hk := ev_kind Φ lo m1 l m2 r
    obtain ⟨k, d⟩ := l
    obtain ⟨F, O, s, ok2⟩ := ok2
    cases d <;> try (exact a2.elim)
    rename_i i
    obtain ⟨r, e3, p⟩ := a2.ret
    obtain ⟨d, e1, e3⟩ := optb e3
    have ok3 : Ok g b F O s H2 m2 σ (τ ++ ([tmO v x] ++ [(w, k, D.int i)])) := by simpa using ok2
    exact ⟨i, int_tmp ok2 hk, slc_ok ok2.sub (opn_view ok2.pre o1 e1) e3 (hand_of ok3 p)⟩
theorem snd_slcB {e lo hi : E} (Se : Snd g fl Φ b e) (Sl : Snd g fl Φ b lo) (Sh : Snd g fl Φ b hi) : Snd g fl Φ b (.slcB e lo hi) := by
  intro W σ H m τ Q h a
  show T g fl Φ e W σ H fun x H1 => T g fl Φ lo W σ H1 fun y H2 => ∃ i, y = .int i ∧ T g fl Φ hi W σ H2 fun z H3 => ∃ j, z = .int j ∧ rSlU g.K x (some i) (some j) H3 Q
  simp only [ev] at a
  refine Se.opn h (a.bind.imp fun x m1 a1 v H1 ok1 o1 => ?_)
  refine Sl W σ H1 m1 _ _ ok1 ?_
  have a2 := (a1.more (ops := [tmO v x])).bind
  cases r : ev Φ lo m1 with
  | no => rw [r] at a2; exact a2
  | ex c d m2 => rw [r] at a2; exact a2
  | ok l m2 =>
    rw [r] at a2
    intro w H2 ok2
    have hk := ev_kind Φ lo m1 l m2 r
    obtain ⟨k, d⟩ := l
    have ok2' := ok2
    obtain ⟨F, O, s, ok2⟩ := ok2
    cases d <;> try (exact a2.elim)
    rename_i i
    refine ⟨i, int_tmp ok2 hk, ?_⟩
    refine Sh W σ H2 m2 _ _ ok2' ?_
    have a3 : Aft g fl b W σ (τ ++ [tmO v x] ++ [(w, k, D.int i)]) ((ev Φ hi m2).bind _) _ := Aft.more (ops := [(w, k, D.int i)]) (τ := τ ++ [tmO v x]) a2
    have a3 := a3.bind
    cases r : ev Φ hi m2 with
    | no => rw [r] at a3; exact a3
    | ex c d m2 => rw [r] at a3; exact a3
    | ok u m3 =>
      rw [r] at a3
      intro w3 H3 ok3
      have hk3 := ev_kind Φ hi m2 u m3 r
      obtain ⟨k3, d3⟩ := u
      obtain ⟨F, O, s, ok3⟩ := ok3
      cases d3 <;> try (exact a3.elim)
      rename_i j
      obtain ⟨r, e3, p⟩ := Aft.ret a3
      obtain ⟨d, e1, e3⟩ := optb e3
      have ok4 : Ok g b F O s H3 m3 σ (τ ++ ([tmO v x] ++ [(w, k, D.int i)] ++ [(w3, k3, D.int j)])) := by simpa using ok3
      exact ⟨j, int_tmp ok3 hk3, slc_ok ok3.sub (opn_view ok3.pre.pre o1 e1) e3 (hand_of ok4 p)⟩
theorem snd_bm {mm : Bm} {o : E} {es : List E} (So : Snd g fl Φ b o) (Ss : SndO g fl Φ b es) : Snd g fl Φ b (.bm mm o es) := by
  intro W σ H m τ Q h a
  show T g fl Φ o W σ H fun x H1 => (∃ a, x = .str a) ∧ TL g fl Φ es [] W σ H1 fun xs H2 => relB g.K mm x xs H2 Q
  simp only [ev] at a
  refine So W σ H m τ _ h ?_
  have a1 := a.bind
  cases r : ev Φ o m with
  | no => rw [r] at a1; exact a1
  | ex c d m2 => rw [r] at a1; exact a1
  | ok l m1 =>
    rw [r] at a1
    intro v H1 ok1
    have hk := ev_kind Φ o m l m1 r
    obtain ⟨k, d⟩ := l
    cases d <;> try (exact a1.elim)
    rename_i z
    have ev : v = .str z ∧ PyData.strOk z = true := by
      obtain ⟨F, O, s, ok1⟩ := ok1
      exact ((ok1.temps τ.length v k (.str z) (by simp)).view (by intro w; subst w; exact hk)).str
    obtain ⟨rfl, kz⟩ := ev
    have a1' : Aft g fl b W σ (τ ++ [(V.str z, k, D.str z)]) ((evOs Φ es m1).bind _) _ := Aft.more (ops := [(V.str z, k, D.str z)]) (τ := τ) a1
    refine ⟨⟨z, rfl⟩, Ss W σ H1 m1 _ [] _ ok1 (a1'.bind.imp fun os m2 a2 vs H2 ok2 l2 => ?_)⟩
    rw [List.append_nil]
    obtain ⟨r, e, p⟩ := a2.ret
    obtain ⟨ds, e1, e⟩ := optb e
    obtain ⟨F, O, s, ok2⟩ := ok2
    have ok3 : Ok g b F O s H2 m2 σ (τ ++ ([(V.str z, k, D.str z)] ++ Oz vs os)) := by simpa using ok2
    exact bm_ok ok2.sub kz (views_of ok2 l2 e1) e (hand_of ok3 p)
theorem snd_mut {mm : Mm} {i : Nat} {es : List E} (Ss : SndV g fl Φ b es) : Snd g fl Φ b (.mut mm i es) := by
  intro W σ H m τ Q h a
  show tVar i σ H fun x H1 => tyV g.K "list" x H1 ∧ TL g fl Φ es [] W σ H1 fun xs H2 => relM mm x xs H2 Q
  simp only [ev] at a
  split at a
  · rename_i xs0 e0
    have hv : ∃ v, σ[i]? = some (some v) ∧ tyV g.K "list" v H := by
      obtain ⟨F, O, s, h⟩ := h
      obtain ⟨v, hv, p, rfl, _, us, e1, _⟩ := h.slots i _ _ e0
      exact ⟨_, hv, .inl ⟨rfl, us, SqL.of e1⟩⟩
    obtain ⟨v, hv, ty⟩ := hv
    refine ⟨v, hv, ty, Ss W σ H m τ [] _ h (a.bind.imp fun ds m1 a1 vs H1 ok1 l => ?_)⟩
    rw [List.append_nil]
    split at a1
    · rename_i xs1 e1
      split at a1
      · rename_i d xs' e2
        obtain ⟨F, O, s, ok1⟩ := ok1
        exact mm_ok ok1 e1 hv (reps_of ok1 l) e2 a1
      · exact a1.elim
    · exact a1.elim
  · exact a.elim
theorem truV_of {F : Hp} {O : Addr → Option Tag} {s : Addr} {H : Hp} {m : M} {σ : L2.St} {τ : List Tm} {v : V} {d : D} {c : Bool} (h : Ok g b F O s H m σ (τ ++ [(v, .fr, d)])) (e : trD d = some c) : TruV g.K v H c :=
  trD_ok h.sub (.inl (h.temps τ.length v .fr d (by simp))) e
theorem snd_and {x y : E} (Sx : Snd g fl Φ b x) (Sy : Snd g fl Φ b y) : Snd g fl Φ b (.andE x y) := by
  intro W σ H m τ Q h a
  show T g fl Φ x W σ H fun v H1 => ∃ k, TruV g.K v H1 k ∧ if k = true then T g fl Φ y W σ H1 Q else Q v H1
  simp only [ev] at a
  refine Sx.fz h (a.bind.imp fun d m1 a1 v H1 ok1 => ?_)
  have ok1' := ok1
  obtain ⟨F, O, s, ok⟩ := ok1
  cases e : trD d with
  | none => rw [e] at a1; exact a1.elim
  | some c =>
    rw [e] at a1
    refine ⟨c, truV_of ok e, ?_⟩
    cases c with
    | true =>
      rw [if_pos rfl]
      exact Sy.fz ⟨F, O, s, ok.pre⟩ a1.bind
    | false =>
      rw [if_neg (by intro z; cases z)]
      exact a1 v H1 ok1'
theorem snd_or {x y : E} (Sx : Snd g fl Φ b x) (Sy : Snd g fl Φ b y) : Snd g fl Φ b (.orE x y) := by
  intro W σ H m τ Q h a
  show T g fl Φ x W σ H fun v H1 => ∃ k, TruV g.K v H1 k ∧ if k = true then Q v H1 else T g fl Φ y W σ H1 Q
  simp only [ev] at a
  refine Sx.fz h (a.bind.imp fun d m1 a1 v H1 ok1 => ?_)
  have ok1' := ok1
  obtain ⟨F, O, s, ok⟩ := ok1
  cases e : trD d with
  | none => rw [e] at a1; exact a1.elim
  | some c =>
    rw [e] at a1
    refine ⟨c, truV_of ok e, ?_⟩
    cases c with
    | true =>
      rw [if_pos rfl]
      exact a1 v H1 ok1'
    | false =>
      rw [if_neg (by intro z; cases z)]
      exact Sy.fz ⟨F, O, s, ok.pre⟩ a1.bind
theorem snd_not {x : E} (Sx : Snd g fl Φ b x) : Snd g fl Φ b (.notE x) := by
  intro W σ H m τ Q h a
  show T g fl Φ x W σ H fun v H1 => ∃ k, TruV g.K v H1 k ∧ Q (.bl (!k)) H1
  simp only [ev] at a
  refine Sx.opn h (a.bind.imp fun x m1 a1 v H1 ok1 o1 => ?_)
  obtain ⟨F, O, s, ok⟩ := ok1
  cases e : (x.d m1).bind trD with
  | none => rw [e] at a1; exact a1.elim
  | some c =>
    rw [e] at a1
    obtain ⟨d, e1, e2⟩ := optb e
    exact ⟨c, trD_ok ok.sub (opn_view ok o1 e1) e2, a1 (.bl (!c)) H1 ⟨F, O, s, ok.pre.push (Rep.scal_bl : Rep g F (.bl (!c)) (.bl (!c)))⟩⟩
theorem snd_ite {c x y : E} (Sc : SndT' g fl Φ b c) (Sx : Snd g fl Φ b x) (Sy : Snd g fl Φ b y) : Snd g fl Φ b (.ite c x y) := by
  intro W σ H m τ Q h a
  show TT' g fl Φ c W σ H fun k H1 => if k = true then T g fl Φ x W σ H1 Q else T g fl Φ y W σ H1 Q
  simp only [ev] at a
  refine Sc W σ H m τ _ h (a.bind.imp fun k m1 a1 H1 ok1 => ?_)
  cases k with
  | true => rw [if_pos rfl] at a1 ⊢; exact Sx W σ H1 m1 τ Q ok1 a1
  | false =>
    rw [if_neg (by intro z; cases z)] at a1 ⊢
    exact Sy W σ H1 m1 τ Q ok1 a1
theorem snd_call {f : Nat} {es : List E} (Ss : SndA g fl Φ b es) : Snd g fl Φ b (.call f es) := by
  intro W σ H m τ Q h a
  show TL g fl Φ es [] W σ H fun vs H1 => spT g fl Φ f vs H1 Q (WE W σ)
  simp only [ev] at a
  cases e : Φ f with
  | none => rw [e] at a; exact a.elim
  | some fn =>
    rw [e] at a
    refine Ss fn.ps W σ H m τ _ h (a.bind.imp fun ds m1 a1 vs F O s H1 ok1 ha => ?_)
    unfold spT
    rw [e]
    exact callF_sound ok1 ha a1
theorem T_walk {k : Itk} {ie : E} {W : WX} {σ : L2.St} {H : Hp} {R : It → Hp → Prop} (h : T g fl Φ ie W σ H fun v H1 => wiOf g.K k (fun _ _ Q => Q v H1) σ H1 R) : wiOf g.K k (T g fl Φ ie W) σ H R := by
  cases k <;> exact h
theorem snd_lc {k : Itk} {ie : E} {tg : Tgt} {cond : List E} {elt : E} {vs : List Nat} (Si : Snd g fl Φ b ie) (Sc : SndT g fl b (evC Φ cond) (TCn g fl Φ cond)) (Se : Snd g fl Φ b elt) : Snd g fl Φ b (.lc k ie tg cond elt vs) := by
  intro W σ H m τ Q h a
  simp only [ev] at a
  split at a
  · rename_i htg
    have key : wiOf g.K k (T g fl Φ ie W) σ H fun J H1 => ∀ Da, H1 Da = none → ∃ Wv : Nat → Nat → Hp → Prop, (∃ mm, Wv 0 mm (upd H1 Da (.lst []))) ∧ ∀ i mm H, Wv i mm H →
      (J.stop i H ∧ Q (.ref Da) H) ∨ (J.go i H ∧ ∃ Nx : Hp → Prop, (∀ H', Nx H' → ∃ m', m' < mm ∧ Wv (i + 1) m' H') ∧ ∀ x H', J.yld i H x H' → TGt g.K tg x (wipe σ vs) H' fun σ2 H2 => wipe σ2 vs = wipe σ vs ∧ TCn g fl Φ cond W0 σ2 H2 fun c H3 =>
        if c = true then T g fl Φ elt W0 σ2 H3 fun y H4 => ∃ acc, H4 Da = some (.lst acc) ∧ acc.length < sizeLine ∧ Nx (upd H4 Da (.lst (acc ++ [y]))) else Nx H3) := by
      refine T_walk (Si.fz h (a.bind.imp fun x m1 a1 v H1 ok1 => ?_))
      cases e : walkD k x with
      | none => rw [e] at a1; exact a1.elim
      | some ds =>
        rw [e] at a1
        simp only at a1
        split at a1
        · rename_i hno
          exact walk_ok ok1 e fun J wj => lc_ok Sc Se wj htg ok1 hno a1
        · exact a1.elim
    cases k <;> exact key
  · exact a.elim

/-! ### tests -/
theorem sndT_and {x y : E} (Sx : SndT' g fl Φ b x) (Sy : SndT' g fl Φ b y) : SndT' g fl Φ b (.andE x y) := by
  intro W σ H m τ Q h a
  show TT' g fl Φ x W σ H fun k H1 => if k = true then TT' g fl Φ y W σ H1 Q else Q false H1
  simp only [evT] at a
  refine Sx W σ H m τ _ h (a.bind.imp fun k m1 a1 H1 ok1 => ?_)
  cases k with
  | true => rw [if_pos rfl] at a1 ⊢; exact Sy W σ H1 m1 τ Q ok1 a1
  | false =>
    rw [if_neg (by intro z; cases z)] at a1 ⊢
    exact a1 H1 ok1
theorem sndT_or {x y : E} (Sx : SndT' g fl Φ b x) (Sy : SndT' g fl Φ b y) : SndT' g fl Φ b (.orE x y) := by
  intro W σ H m τ Q h a
  show TT' g fl Φ x W σ H fun k H1 => if k = true then Q true H1 else TT' g fl Φ y W σ H1 Q
  simp only [evT] at a
  refine Sx W σ H m τ _ h (a.bind.imp fun k m1 a1 H1 ok1 => ?_)
  cases k with
  | true => rw [if_pos rfl] at a1 ⊢; exact a1 H1 ok1
  | false =>
    rw [if_neg (by intro z; cases z)] at a1 ⊢
    exact Sy W σ H1 m1 τ Q ok1 a1
theorem sndT_not {x : E} (Sx : SndT' g fl Φ b x) : SndT' g fl Φ b (.notE x) := by
  intro W σ H m τ Q h a
  show TT' g fl Φ x W σ H fun k H1 => Q (!k) H1
  simp only [evT] at a
  exact Sx W σ H m τ _ h (a.bind.imp fun k m1 a1 H1 ok1 => a1 H1 ok1)
theorem okK_view {F : Hp} {O : Addr → Option Tag} {s : Addr} {H : Hp} {m : M} {σ : L2.St} {τ : List Tm} {v : V} {r : Kd × D} (h : Ok g b F O s H m σ (τ ++ [(v, r.1, r.2)])) (hk : okK r.1) : View g F H r.2 v :=
  (h.temps τ.length v r.1 r.2 (by simp)).view (by intro z; rw [z] at hk; exact hk)
theorem sndT_op {o : Op} {es : List E} (S : Snd g fl Φ b (.op o es)) (So : SndO g fl Φ b es) : SndT' g fl Φ b (.op o es) := by
  intro W σ H m τ Q h a
  simp only [evT] at a
  cases hc : o.cmp with
  | true =>
    rw [hc, if_pos rfl] at a
    have e1 : TT' g fl Φ (.op o es) W = tTest (tCB (rel g.K o) (TL g fl Φ es o.tail W)) := by simp only [TT', hc, if_pos]
    show TT' g fl Φ (.op o es) W σ H Q
    rw [e1]
    show TL g fl Φ es o.tail W σ H fun vs H1 => rel g.K o vs H1 fun x H' => ∃ k, x = .bl k ∧ Q k H'
    refine So W σ H m τ _ _ h (a.bind.imp fun os m1 a1 vs H1 ok l => ?_)
    cases e2 : (resO m1 os).bind (opD o) with
    | none => rw [e2] at a1; exact a1.elim
    | some r =>
      rw [e2] at a1
      obtain ⟨k, d⟩ := r
      cases d <;> try (exact a1.elim)
      rename_i c
      obtain ⟨ds, e3, e4⟩ := optb e2
      obtain ⟨F, O, s, ok⟩ := ok
      have hk := opD_kind e4
      refine op_ok (by cases o <;> simp [Op.cmp] at hc <;> rfl) ok.sub (views_of ok l e3) e4 fun v F' H' x mk => ?_
      obtain ⟨O', ok'⟩ := ok.pre.made x mk
      have vw := okK_view (r := (k, D.bl c)) ok' hk
      exact ⟨c, vw.bl, a1 H' ⟨F', O', s, ok'.pre⟩⟩
  | false =>
    have e1 : TT' g fl Φ (.op o es) W = tTru g.K (T g fl Φ (.op o es) W) := by
      simp only [TT', hc, Bool.false_eq_true, if_false, T]
    show TT' g fl Φ (.op o es) W σ H Q
    rw [e1]
    rw [hc, if_neg (by intro z; cases z)] at a
    refine S W σ H m τ _ h ?_
    have a1 : Aft g fl b W σ τ ((ev Φ (.op o es) m).bind fun x m1 => retO (trD x.2) m1) (fun c m' => ∀ H', OK g b H' m' σ τ → Q c H') := by simpa only [ev] using a
    have a2 := a1.bind
    cases r : ev Φ (.op o es) m with
    | no => rw [r] at a2; exact a2
    | ex c d m2 => rw [r] at a2; exact a2
    | ok x m1 =>
      rw [r] at a2
      intro v H1 ok
      obtain ⟨c, e, p⟩ := Aft.ret a2
      obtain ⟨F, O, s, ok⟩ := ok
      exact ⟨c, trD_ok ok.sub (okK_view ok (ev_kind Φ _ m x m1 r)) e, p H1 ⟨F, O, s, ok.pre⟩⟩
theorem sndT_var {i : Nat} : SndT' g fl Φ b (.var i) := by
  intro W σ H m τ Q h a
  show tVar i σ H fun x H' => ∃ k, TruV g.K x H' k ∧ Q k H'
  simp only [evT] at a
  split at a
  · exact a.elim
  · rename_i k d hk e
    obtain ⟨c, e2, p⟩ := Aft.ret a
    have h' := h
    obtain ⟨F, O, s, h⟩ := h
    obtain ⟨v, hv, t⟩ := h.slots i _ _ e
    exact ⟨v, hv, c, trD_ok h.sub (t.view (by intro z; exact hk z)) e2, p H h'⟩
  · exact a.elim
theorem sndT_call {f : Nat} {es : List E} (S : Snd g fl Φ b (.call f es)) : SndT' g fl Φ b (.call f es) := by
  intro W σ H m τ Q h a
  show T g fl Φ (.call f es) W σ H fun x H' => ∃ k, TruV g.K x H' k ∧ Q k H'
  refine S W σ H m τ _ h ?_
  simp only [evT] at a
  have a1 : Aft g fl b W σ τ ((ev Φ (.call f es) m).bind fun x m1 => retO (trD x.2) m1) (fun c m' => ∀ H', OK g b H' m' σ τ → Q c H') := by
    simp only [ev]
    cases e : Φ f with
    | none => rw [e] at a; exact a.elim
    | some fn =>
      rw [e] at a
      simp only at a ⊢
      revert a
      cases evAs Φ fn.ps es m with
      | no => exact id
      | ex c d m2 => exact id
      | ok ds m1 => exact id
  have a2 := a1.bind
  cases r : ev Φ (.call f es) m with
  | no => rw [r] at a2; exact a2
  | ex c d m2 => rw [r] at a2; exact a2
  | ok x m1 =>
    rw [r] at a2
    intro v H1 ok
    obtain ⟨c, e, p⟩ := Aft.ret a2
    obtain ⟨F, O, s, ok⟩ := ok
    exact ⟨c, trD_ok ok.sub (okK_view ok (ev_kind Φ _ m x m1 r)) e, p H1 ⟨F, O, s, ok.pre⟩⟩

/-! ### all of it -/
variable (g fl Φ b)
mutual
theorem snd : ∀ e : E, Snd g fl Φ b e
  | .var i => snd_var
  | .cst c => snd_cst
  | .op o es => snd_op (sndV es) (sndO es)
  | .slcL e lo => snd_slcL (snd e) (snd lo)
  | .slcH e hi => snd_slcH (snd e) (snd hi)
  | .slcB e lo hi => snd_slcB (snd e) (snd lo) (snd hi)
  | .bm mm o es => snd_bm (snd o) (sndO es)
  | .mut mm i es => snd_mut (sndV es)
  | .andE x y => snd_and (snd x) (snd y)
  | .orE x y => snd_or (snd x) (snd y)
  | .notE x => snd_not (snd x)
  | .ite c x y => snd_ite (sndT c) (snd x) (snd y)
  | .call f es => snd_call (sndA es)
  | .lc k ie tg cond elt vs => snd_lc (snd ie) (sndC cond) (snd elt)
theorem sndT : ∀ e : E, SndT' g fl Φ b e
  | .andE x y => sndT_and (sndT x) (sndT y)
  | .orE x y => sndT_or (sndT x) (sndT y)
  | .notE x => sndT_not (sndT x)
  | .op o es => sndT_op (snd_op (sndV es) (sndO es)) (sndO es)
  | .var i => sndT_var
  | .call f es => sndT_call (snd_call (sndA es))
  | .cst c => fun W σ H m τ Q h a => by simp only [evT] at a; exact a.elim
  | .slcL e lo => fun W σ H m τ Q h a => by simp only [evT] at a; exact a.elim
  | .slcH e lo => fun W σ H m τ Q h a => by simp only [evT] at a; exact a.elim
  | .slcB e lo hi => fun W σ H m τ Q h a => by simp only [evT] at a; exact a.elim
  | .bm mm o es => fun W σ H m τ Q h a => by simp only [evT] at a; exact a.elim
  | .mut mm i es => fun W σ H m τ Q h a => by simp only [evT] at a; exact a.elim
  | .ite c x y => fun W σ H m τ Q h a => by simp only [evT] at a; exact a.elim
  | .lc k ie tg cond elt vs => fun W σ H m τ Q h a => by simp only [evT] at a; exact a.elim
theorem sndC : ∀ es : List E, SndT g fl b (evC Φ es) (TCn g fl Φ es)
  | [] => fun W σ H m τ Q h a => a H h
  | e :: _ => sndT e
theorem sndV : ∀ es : List E, SndV g fl Φ b es
  | [] => sndV_nil
  | e :: es => sndV_cons (snd e) (sndV es)
theorem sndO : ∀ es : List E, SndO g fl Φ b es
  | [] => sndO_nil
  | e :: es => sndO_cons (snd e) (sndO es)
theorem sndA : ∀ es : List E, SndA g fl Φ b es
  | [] => sndA_nil
  | e :: es => sndA_cons (snd e) (sndA es)
end
end
end VI

set_option Elab.async false
set_option linter.all false
set_option maxRecDepth 100000
namespace VI
open PySem PySem.Spec PyProof.Rows L2

/-! ### statements -/
inductive S where
  | asg (tg : Tgt) (e : E)
  | setIx (i : Nat) (ix e : E)
  | expr (e : E)
  | ite (c : E) (a b : List S)
  | for_ (k : Itk) (ie : E) (tg : Tgt) (body : List S)
  | ret (e : E)
  | retN
  | brk | cnt
inductive Out where
  | no
  | nx (m : M)
  | brk (m : M)
  | cnt (m : M)
  | ret (k : Kd) (d : D) (m : M)
  | ex (c : Str) (d : D) (m : M)
def Out.bind : Out → (M → Out) → Out
  | .nx m, f => f m
  | o, _ => o
def Rs.out {α : Type} : Rs α → (α → M → Out) → Out
  | .no, _ => .no
  | .ex c d m, _ => .ex c d m
  | .ok a m, f => f a m
def forRun (tg : Tgt) (body : M → Out) : List D → M → Out
  | [], m => .nx m
  | d :: ds, m => match tg.bind d m with
    | none => .no
    | some m1 => match body m1 with
      | .nx m2 => forRun tg body ds m2
      | .cnt m2 => forRun tg body ds m2
      | .brk m2 => .nx m2
      | o => o
def setD (xs : List D) (i : Int) (d : D) : Option (List D) := (ixN xs.length i).map fun j => xs.set j d
section
variable (Φ : Nat → Option Fn)
mutual
def ex : S → M → Out
  | .asg (.nm i) e, m => (ev Φ e m).out fun r m1 => if i < m1.ρ.length then .nx (m1.put i (.th r.1 r.2)) else .no
  | .asg tg e, m => (frzOf (ev Φ e) m).out fun d m1 => match tg.bind d m1 with
    | some m2 => .nx m2
    | none => .no
  | .setIx i ix e, m => (frzOf (ev Φ e) m).out fun d m1 => match m1.ρ[i]? with
    | some (.th .ow (.lst _)) => (ev Φ ix m1).out fun x m2 => match x with
      | (_, .int j) => match m2.ρ[i]? with
        | some (.th .ow (.lst xs)) => match setD xs j d with
          | some xs' => .nx (m2.put i (.th .ow (.lst xs')))
          | none => .no
        | _ => .no
      | _ => .no
    | _ => .no
  | .expr e, m => (ev Φ e m).out fun _ m1 => .nx m1
  | .ite c a b, m => (evT Φ c m).out fun t m1 => if t then exs a m1 else exs b m1
  | .for_ k ie tg body, m => (frzOf (ev Φ ie) m).out fun x m1 => match walkD k x with
    | some ds => forRun tg (exs body) ds m1
    | none => .no
  | .ret (.var i), m => match m.ρ[i]? with
    | some (.th .ow d) => .ret .ow d (m.put i .no)
    | some (.th .fr d) => .ret .fr d m
    | _ => .no
  | .ret e, m => (ev Φ e m).out fun r m1 => .ret r.1 r.2 m1
  | .retN, m => .ret .fr .non m
  | .brk, m => .brk m
  | .cnt, m => .cnt m
def exs : List S → M → Out
  | [], m => .nx m
  | s :: ss, m => (ex s m).bind (exs ss)
end
end
section
variable (g : Gm) (fl : Str → Str) (Φ : Nat → Option Fn)
mutual
def TS1 : S → WX → TS
  | .asg tg e, W => tAsg (T g fl Φ e W) (TGt g.K tg)
  | .setIx i ix e, W => tAsg (T g fl Φ e W) (gSub (tVar i) (T g fl Φ ix W) rSetL)
  | .expr e, W => tDrop (T g fl Φ e W)
  | .ite c a b, W => tIfS (TT' g fl Φ c W) (TSs a W) (TSs b W)
  | .for_ k ie tg body, W => tFor (wiOf g.K k (T g fl Φ ie W)) (TGt g.K tg) (TSs body W)
  | .ret e, W => tRet (T g fl Φ e W)
  | .retN, _ => tRetN
  | .brk, _ => tBreak
  | .cnt, _ => tCont
def TSs : List S → WX → TS
  | [], _ => tNext
  | s :: ss, W => tSeq (TS1 s W) (TSs ss W)
end
end

/-- what is to hold behind a block -/
def OutOk (g : Gm) (fl : Str → Str) (b : Bs) (W : WX) (τ : List Tm) (Dn : Ends) : Out → Prop
  | .no => False
  | .nx m => ∀ σ H, OK g b H m σ τ → Dn.nx σ H
  | .brk m => ∀ σ H, OK g b H m σ τ → Dn.bk σ H
  | .cnt m => ∀ σ H, OK g b H m σ τ → Dn.ct σ H
  | .ret k d m => ∀ v σ H, OK g b H m σ (τ ++ [(v, k, d)]) → Dn.rt v H
  | .ex c d m => ∀ σ, ExW g fl b W σ τ c d m
def SndS (g : Gm) (fl : Str → Str) (b : Bs) (f : M → Out) (ts : WX → TS) : Prop :=
  ∀ (W : WX) (σ : L2.St) (H : Hp) (m : M) (τ : List Tm) (Dn : Ends), OK g b H m σ τ → OutOk g fl b W τ Dn (f m) → ts W Dn σ H
section
variable {g : Gm} {fl : Str → Str} {Φ : Nat → Option Fn} {b : Bs}
theorem OutOk.out {α : Type} {W : WX} {σ : L2.St} {τ : List Tm} {Dn : Ends} {r : Rs α} {f : α → M → Out} (h : OutOk g fl b W τ Dn (r.out f)) : Aft g fl b W σ τ r fun a m => OutOk g fl b W τ Dn (f a m) := by
  cases r with
  | no => exact h
  | ok a m => exact h
  | ex c d m => exact h σ
/-- the last temporary but one is forgotten -/
theorem OK.mid {H : Hp} {m : M} {σ : L2.St} {τ : List Tm} {a : Tm} {v : V} {k : Kd} {d : D} (h : OK g b H m σ ((τ ++ [a]) ++ [(v, k, d)])) : OK g b H m σ (τ ++ [(v, k, d)]) := by
  obtain ⟨F, O, s, h⟩ := h
  have t := h.temps (τ ++ [a]).length v k d (by rw [List.getElem?_append_right (Nat.le_refl _)]; simp)
  have h0 := h.pre.pre
  cases k with
  | fr => exact ⟨F, O, s, h0.push t⟩
  | le => exact ⟨F, O, s, h0.push t⟩
  | un => exact ⟨F, O, s, h0.push trivial⟩
  | ow =>
    obtain ⟨p, rfl, op, c⟩ := t
    obtain ⟨O', h'⟩ := h0.retag op (by simp) c
    exact ⟨F, O', s, h'⟩
theorem OKx.mid {H : Hp} {m : M} {σ : L2.St} {τ : List Tm} {a : Tm} {v : V} {d : D} {dx : Addr} {f : Str} (h : OKx g b H m σ (τ ++ [a]) v d dx f) : OKx g b H m σ τ v d dx f := h.pre
/-- a slot's own thing is handed back -/
theorem Ok.give {F : Hp} {O : Addr → Option Tag} {s : Addr} {H : Hp} {m : M} {σ : L2.St} {τ : List Tm} {i : Nat} {d : D} (h : Ok g b F O s H m σ τ) (hi : m.ρ[i]? = some (Slot.th .ow d)) : ∃ v, σ[i]? = some (some v) ∧ ∃ O', Ok g b F O' s H (m.put i .no) σ (τ ++ [(v, .ow, d)]) := by
  obtain ⟨v, hv, p, rfl, hp, c⟩ := h.slots i .ow d hi
  refine ⟨_, hv, ?_⟩
  have keep : ∀ q t, t ≠ .sl i → O q = some t → (if q = p then some (Tag.tm τ.length) else O q) = some t := fun q t hne z => by
    rw [if_neg (fun y => by rw [y, hp] at z; exact hne (Option.some.inj z).symm)]; exact z
  have hth : ∀ t w k' d', t ≠ .sl i → Thing g b F H O t w k' d' → Thing g b F H (fun q => if q = p then some (Tag.tm τ.length) else O q) t w k' d' := fun t w k' d' hne x => by
    cases k' with
    | un => trivial
    | fr => exact x
    | ow => obtain ⟨q, e, o, c⟩ := x; exact ⟨q, e, keep q t hne o, c⟩
    | le => exact x
  refine ⟨fun q => if q = p then some (.tm τ.length) else O q, Ok.push ⟨h.sub, fun q t z => ?_, h.fsub, h.base, h.ex, fun q t z => ?_, by simpa [M.put] using h.len, fun j k d e => ?_, fun j e => ?_, fun j w k' d e => hth _ _ _ _ (by intro z; cases z) (h.temps j w k' d e), fun y e => ?_, h.so⟩ ⟨p, rfl, if_pos rfl, c⟩⟩
  · by_cases y : q = p
    · subst y; exact h.off q _ hp
    · simp only [if_neg y] at z; exact h.off q t z
  · by_cases y : q = p
    · subst y
      rcases h.new q _ hp with w | ⟨w, _⟩
      · exact .inl w
      · cases w
    · simp only [if_neg y] at z; exact h.new q t z
  · rcases M.get_put e with ⟨rfl, _, z⟩ | ⟨hj, q⟩
    · cases z
    · obtain ⟨w, e1, t1⟩ := h.slots j k d q
      exact ⟨w, e1, hth _ _ _ _ (by intro z; cases z; exact hj rfl) t1⟩
  · rcases M.get_put e with ⟨rfl, _, z⟩ | ⟨hj, q⟩
    · cases z
    · exact h.sts j q
  · have z := h.stt y e
    cases y with
    | dr ns sc c => obtain ⟨a, bb, h1, h2, h3, h4, h5, h6⟩ := z; exact ⟨a, bb, h1, h2, h3, keep _ _ (by intro z; cases z) h4, keep _ _ (by intro z; cases z) h5, h6⟩
    | tk ns i c => obtain ⟨a, h1, h2, h4, h5, h6⟩ := z; exact ⟨a, h1, h2, keep _ _ (by intro z; cases z) h4, keep _ _ (by intro z; cases z) h5, h6⟩

theorem sS_asgN {i : Nat} {e : E} : SndS g fl b (ex Φ (.asg (.nm i) e)) (TS1 g fl Φ (.asg (.nm i) e)) := by
  intro W σ H m τ Dn h a
  show T g fl Φ e W σ H fun x H1 => Dn.nx (σ.set i (some x)) H1
  simp only [ex] at a
  refine snd g fl Φ b e W σ H m τ _ h ?_
  have a1 := a.out (σ := σ)
  cases r : ev Φ e m with
  | no => rw [r] at a1; exact a1
  | ex c d m1 => rw [r] at a1; exact a1
  | ok x m1 =>
    rw [r] at a1
    intro v H1 ok
    have hk := ev_kind Φ e m x m1 r
    have a2 : OutOk g fl b W τ Dn (if i < m1.ρ.length then .nx (m1.put i (.th x.1 x.2)) else .no) := a1
    split at a2
    · rename_i hl
      obtain ⟨F, O, s, ok⟩ := ok
      obtain ⟨O', ok'⟩ := ok.store (by intro z; rw [z] at hk; exact hk) hl
      exact a2 _ H1 ⟨F, O', s, ok'⟩
    · exact a2.elim
theorem sS_asg {tg : Tgt} {e : E} : SndS g fl b (ex Φ (.asg tg e)) (TS1 g fl Φ (.asg tg e)) := by
  cases tg with
  | nm i => exact sS_asgN
  | tp is =>
    intro W σ H m τ Dn h a
    show T g fl Φ e W σ H fun x H1 => TGt g.K (.tp is) x σ H1 Dn.nx
    simp only [ex] at a
    refine (snd g fl Φ b e).fz h (a.out.imp fun d m1 a1 v H1 ok => ?_)
    cases e2 : (Tgt.tp is).bind d m1 with
    | none => rw [e2] at a1; exact a1.elim
    | some m2 =>
      rw [e2] at a1
      obtain ⟨F, O, s, ok⟩ := ok
      exact tgt_ok ok.pre (ok.temps τ.length v .fr d (by simp)) e2 fun σ1 O' ok' _ _ => a1 σ1 H1 ⟨F, O', s, ok'⟩
theorem ixN_set {g : Gm} {F : Hp} {ds : List D} {vs : List V} {d : D} {v : V} {i : Int} {ds' : List D} (r : Reps g F ds vs) (rd : Rep g F d v) (h : setD ds i d = some ds') : ∃ j, ixN vs.length i = some j ∧ Reps g F ds' (vs.set j v) := by
  unfold setD at h
  rw [r.length] at h
  cases e : ixN vs.length i with
  | none => rw [e] at h; cases h
  | some j =>
    rw [e] at h
    simp only [Option.map_some, Option.some.injEq] at h
    subst h
    exact ⟨j, rfl, r.set rd j⟩
theorem sS_setIx {i : Nat} {ix e : E} : SndS g fl b (ex Φ (.setIx i ix e)) (TS1 g fl Φ (.setIx i ix e)) := by
  intro W σ H m τ Dn h a
  show T g fl Φ e W σ H fun x H1 => tVar i σ H1 fun o H2 => T g fl Φ ix W σ H2 fun k H3 => rSetL o k x H3 fun H4 => Dn.nx σ H4
  simp only [ex] at a
  refine (snd g fl Φ b e).fz h (a.out.imp fun d m1 a1 v H1 ok => ?_)
  split at a1
  · rename_i xs0 e0
    obtain ⟨w, hw⟩ := ok.slot e0
    refine ⟨w, hw, ?_⟩
    refine snd g fl Φ b ix W σ H1 m1 _ _ ok ?_
    have a2 := a1.out (σ := σ)
    cases r : ev Φ ix m1 with
    | no => rw [r] at a2; exact a2
    | ex c d m2 => rw [r] at a2; exact ExW.pre a2
    | ok x m2 =>
      rw [r] at a2
      intro u H2 ok2
      have hk := ev_kind Φ ix m1 x m2 r
      obtain ⟨k, dx⟩ := x
      cases dx <;> try (exact a2.elim)
      rename_i j
      have a3 : OutOk g fl b W τ Dn (match m2.ρ[i]? with
        | some (.th .ow (.lst xs)) => match setD xs j d with
          | some xs' => .nx (m2.put i (.th .ow (.lst xs')))
          | none => .no
        | _ => .no) := a2
      split at a3
      · rename_i xs e1
        cases e2 : setD xs j d with
        | none => rw [e2] at a3; exact a3.elim
        | some xs' =>
          rw [e2] at a3
          obtain ⟨F, O, s, ok2⟩ := ok2
          obtain ⟨w', hw', p, rfl, _, us, e3, r3⟩ := ok2.slots i _ _ e1
          rw [hw] at hw'; cases hw'
          have rd : Rep g F d v := ok2.pre.temps τ.length v .fr d (by simp)
          obtain ⟨jj, e4, r4⟩ := ixN_set r3 rd e2
          refine ⟨p, us, j, jj, rfl, int_tmp ok2 hk, e3, e4, ?_⟩
          have ok3 := ok2.pre.pre.write (d' := .lst xs') (o := .lst (us.set jj v)) e1 hw ⟨_, upd_same, r4⟩ (fun x z => by rw [e3] at z; cases z) (fun x z => by cases z)
          exact a3 σ _ ⟨F, O, s, ok3⟩
      · exact a3.elim
  · exact a1.elim
theorem sS_expr {e : E} : SndS g fl b (ex Φ (.expr e)) (TS1 g fl Φ (.expr e)) := by
  intro W σ H m τ Dn h a
  show T g fl Φ e W σ H fun x H1 => Dn.nx σ H1
  simp only [ex] at a
  exact snd g fl Φ b e W σ H m τ _ h ((a.out (σ := σ)).imp fun x m1 a1 v H1 ok => a1 σ H1 ok.pre)
theorem sS_ite {c : E} {x y : List S} (Sx : SndS g fl b (exs Φ x) (TSs g fl Φ x)) (Sy : SndS g fl b (exs Φ y) (TSs g fl Φ y)) : SndS g fl b (ex Φ (.ite c x y)) (TS1 g fl Φ (.ite c x y)) := by
  intro W σ H m τ Dn h a
  show TT' g fl Φ c W σ H fun k H1 => if k = true then TSs g fl Φ x W Dn σ H1 else TSs g fl Φ y W Dn σ H1
  simp only [ex] at a
  refine sndT g fl Φ b c W σ H m τ _ h ((a.out (σ := σ)).imp fun k m1 a1 H1 ok1 => ?_)
  cases k with
  | true => rw [if_pos rfl] at a1 ⊢; exact Sx W σ H1 m1 τ Dn ok1 a1
  | false =>
    rw [if_neg (by intro z; cases z)] at a1 ⊢
    exact Sy W σ H1 m1 τ Dn ok1 a1
theorem sS_retE {e : E} (hv : ∀ i, e ≠ .var i) : SndS g fl b (ex Φ (.ret e)) (TS1 g fl Φ (.ret e)) := by
  intro W σ H m τ Dn h a
  show T g fl Φ e W σ H Dn.rt
  have e1 : ex Φ (.ret e) m = (ev Φ e m).out fun r m1 => .ret r.1 r.2 m1 := by
    cases e <;> first | rfl | exact absurd rfl (hv _)
  rw [e1] at a
  exact snd g fl Φ b e W σ H m τ _ h ((a.out (σ := σ)).imp fun x m1 a1 v H1 ok => a1 v σ H1 ok)
theorem sS_ret {e : E} : SndS g fl b (ex Φ (.ret e)) (TS1 g fl Φ (.ret e)) := by
  by_cases hv : ∃ i, e = .var i
  · obtain ⟨i, rfl⟩ := hv
    intro W σ H m τ Dn h a
    show tVar i σ H Dn.rt
    simp only [ex] at a
    split at a
    · rename_i d e1
      obtain ⟨F, O, s, h⟩ := h
      obtain ⟨v, hv, O', h'⟩ := h.give e1
      exact ⟨v, hv, a v σ H ⟨F, O', s, h'⟩⟩
    · rename_i d e1
      obtain ⟨F, O, s, h⟩ := h
      obtain ⟨v, hv, t⟩ := h.slots i _ _ e1
      exact ⟨v, hv, a v σ H ⟨F, O, s, h.push t⟩⟩
    · exact a.elim
  · exact sS_retE fun i z => hv ⟨i, z⟩
theorem forRun_end {tg : Tgt} {f : M → Out} {m : M} : forRun tg f [] m = .nx m := rfl
theorem sS_for {k : Itk} {ie : E} {tg : Tgt} {body : List S} (Sb : SndS g fl b (exs Φ body) (TSs g fl Φ body)) : SndS g fl b (ex Φ (.for_ k ie tg body)) (TS1 g fl Φ (.for_ k ie tg body)) := by
  intro W σ H m τ Dn h a
  simp only [ex] at a
  show wiOf g.K k (T g fl Φ ie W) σ H fun J H1 => ∃ Wv : Nat → Nat → L2.St → Hp → Prop, (∃ m, Wv 0 m σ H1) ∧ ∀ i m σ H, Wv i m σ H →
    (J.stop i H ∧ Dn.nx σ H) ∨ (J.go i H ∧ ∃ N : L2.St → Hp → Prop, (∀ σ' H', N σ' H' → ∃ m', m' < m ∧ Wv (i + 1) m' σ' H') ∧ ∀ x H', J.yld i H x H' → TGt g.K tg x σ H' fun σ2 H2 => TSs g fl Φ body W { Dn with nx := N, ct := N, bk := Dn.nx } σ2 H2)
  refine T_walk ((snd g fl Φ b ie).fz h (a.out.imp fun x m1 a1 v H1 ok1 => ?_))
  cases e : walkD k x with
  | none => rw [e] at a1; exact a1.elim
  | some ds =>
    rw [e] at a1
    refine walk_ok ok1 e fun J wj => ?_
    refine ⟨fun i mm σ' H' => i ≤ ds.length ∧ mm = ds.length - i ∧ ∃ mi, OK g b H' mi σ' (τ ++ [(v, .fr, x)]) ∧ OutOk g fl b W τ Dn (forRun tg (exs Φ body) (ds.drop i) mi), ⟨ds.length, Nat.zero_le _, rfl, m1, ok1, by simpa using a1⟩, ?_⟩
    rintro i mm σ H2 ⟨hi, rfl, mi, ok, a⟩
    rcases Nat.lt_or_ge i ds.length with hl | hl
    · right
      have hd : ds[i]? = some ds[i] := List.getElem?_eq_getElem hl
      have hdrop : ds.drop i = ds[i] :: ds.drop (i + 1) := List.drop_eq_getElem_cons hl
      rw [hdrop] at a
      generalize ds[i] = di at hd a
      obtain ⟨F, O, s, ok⟩ := ok
      obtain ⟨hgo, hy⟩ := (wj F O s H2 mi σ _ ok (by simp) i).2 di hd
      refine ⟨hgo, _, fun σ' H' w => ⟨ds.length - (i + 1), by omega, w⟩, fun y H' yl => ?_⟩
      obtain ⟨rfl, ry⟩ := hy y H' yl
      simp only [forRun] at a
      cases eb : tg.bind di mi with
      | none => rw [eb] at a; exact a.elim
      | some m2 =>
        rw [eb] at a
        refine tgt_ok ok ry eb fun σ1 O1 ok2 _ _ => ?_
        refine Sb W σ1 H' m2 _ _ ⟨F, O1, s, ok2⟩ ?_
        simp only at a
        cases eo : exs Φ body m2 with
        | no => rw [eo] at a; exact a
        | nx m3 => rw [eo] at a; exact fun σ3 H3 ok3 => ⟨hl, rfl, m3, ok3, a⟩
        | cnt m3 => rw [eo] at a; exact fun σ3 H3 ok3 => ⟨hl, rfl, m3, ok3, a⟩
        | brk m3 => rw [eo] at a; exact fun σ3 H3 ok3 => a σ3 H3 ok3.pre
        | ret k d m3 => rw [eo] at a; exact fun w σ3 H3 ok3 => a w σ3 H3 ok3.mid
        | ex c d m3 => rw [eo] at a; exact fun σ3 => ExW.pre (a σ3)
    · left
      have e0 : ds.drop i = [] := List.drop_eq_nil_of_le hl
      rw [e0] at a
      obtain ⟨F, O, s, ok⟩ := ok
      exact ⟨(wj F O s H2 mi σ _ ok (by simp) i).1 hl, a σ H2 ⟨F, O, s, ok.pre⟩⟩
variable (g fl Φ b)
mutual
theorem sndS : ∀ s : S, SndS g fl b (ex Φ s) (TS1 g fl Φ s)
  | .asg tg e => sS_asg
  | .setIx i ix e => sS_setIx
  | .expr e => sS_expr
  | .ite c x y => sS_ite (sndSs x) (sndSs y)
  | .for_ k ie tg body => sS_for (sndSs body)
  | .ret e => sS_ret
  | .retN => fun W σ H m τ Dn h a => by
    obtain ⟨F, O, s, h⟩ := h
    exact (a .non σ H ⟨F, O, s, h.push (Rep.scal_non : Rep g F .non .non)⟩)
  | .brk => fun W σ H m τ Dn h a => a σ H h
  | .cnt => fun W σ H m τ Dn h a => a σ H h
theorem sndSs : ∀ ss : List S, SndS g fl b (exs Φ ss) (TSs g fl Φ ss)
  | [] => fun W σ H m τ Dn h a => a σ H h
  | s :: ss => fun W σ H m τ Dn h a => by
    show TS1 g fl Φ s W { Dn with nx := TSs g fl Φ ss W Dn } σ H
    refine sndS s W σ H m τ _ h ?_
    simp only [exs] at a
    cases e : ex Φ s m with
    | no => rw [e] at a; exact a
    | nx m1 => rw [e] at a; exact fun σ1 H1 ok1 => sndSs ss W σ1 H1 m1 τ Dn ok1 a
    | brk m1 => rw [e] at a; exact a
    | cnt m1 => rw [e] at a; exact a
    | ret k d m1 => rw [e] at a; exact a
    | ex c d m1 => rw [e] at a; exact a
end
end

/-! ### a def by its body -/
def startM : Nat → List Pm → List D → List Slot
  | n, [], _ => List.replicate n .no
  | 0, _ :: _, _ => []
  | n + 1, .st :: ps, ds => .st :: startM n ps ds
  | n + 1, .vl :: ps, d :: ds => .th .fr d :: startM n ps ds
  | n + 1, .le :: ps, d :: ds => .th .le d :: startM n ps ds
  | _, _, _ => []
def stOf (ps : List Pm) (m : M) : Option DS := if hasStP ps then m.ds else none
def runFn (Φ : Nat → Option Fn) (n : Nat) (ps : List Pm) (body : List S) : List D → Option DS → Option (FRes × Option DS) := fun ds st =>
  match exs Φ body { ρ := startM n ps ds, ds := st } with
  | .nx m => some (.ret .fr .non, stOf ps m)
  | .ret .fr d m => some (.ret .fr d, stOf ps m)
  | .ret .ow d m => some (.ret .ow d, stOf ps m)
  | .ex c d m => some (.exc c d, stOf ps m)
  | _ => none
def fnOf (Φ : Nat → Option Fn) (n : Nat) (ps : List Pm) (body : List S) : Fn := ⟨ps, runFn Φ n ps body⟩
end VI

set_option Elab.async false
set_option linter.all false
set_option maxRecDepth 100000
namespace VI
open PySem PySem.Spec PyProof.Rows L2

section
variable {g : Gm} {fl : Str → Str} {Φ : Nat → Option Fn}
theorem start_len {N : List Str} {vs : List V} (h : vs.length ≤ N.length) : (L2.start N vs).length = N.length := by
  unfold L2.start
  rw [List.length_append, List.length_map, List.length_replicate]; omega
theorem startM_len : ∀ {n : Nat} {ps : List Pm} {ds : List D} {F H : Hp} {s : Addr} {ns : Addr → Prop} {vs : List V}, ps.length ≤ n → Args g F H s ns ps ds vs → (startM n ps ds).length = n
  | n, [], ds, F, H, s, ns, vs, h, a => by simp [startM]
  | 0, p :: ps, ds, F, H, s, ns, vs, h, a => by simp at h
  | n + 1, .st :: ps, ds, F, H, s, ns, vs, h, ⟨ws, e, a⟩ => by simp only [startM, List.length_cons]; rw [startM_len (by simpa using h) a]
  | n + 1, .vl :: ps, ds, F, H, s, ns, vs, h, ⟨d, es, v, ws, e1, e2, _, a⟩ => by subst e1; simp only [startM, List.length_cons]; rw [startM_len (by simpa using h) a]
  | n + 1, .le :: ps, ds, F, H, s, ns, vs, h, ⟨d, es, v, ws, e1, e2, _, a⟩ => by subst e1; simp only [startM, List.length_cons]; rw [startM_len (by simpa using h) a]
/-- the slots at the entry -/
theorem startM_ok {b : Bs} {F H : Hp} {O : Addr → Option Tag} {s : Addr} : ∀ {n : Nat} {ps : List Pm} {ds : List D} {vs : List V} (j : Nat) (rest : L2.St), b.H0 = H → ps.length ≤ n → Args g F H s (fun p => ¬ b.S0 p) ps ds vs →
    (∀ (i : Nat) (k : Kd) (d : D), (startM n ps ds)[i]? = some (Slot.th k d) → ∃ v, (vs.map some ++ rest)[i]? = some (some v) ∧ Thing g b F H O (.sl (j + i)) v k d) ∧
    (∀ i : Nat, (startM n ps ds)[i]? = some Slot.st → (vs.map some ++ rest)[i]? = some (some (V.ref s)))
  | n, [], ds, vs, j, rest, hb, h, a => by
    have key : ∀ (i : Nat) (x : Slot), (startM n [] ds)[i]? = some x → x = .no := fun i x e => by
      simp only [startM] at e
      exact (List.mem_replicate.mp (List.mem_of_getElem? e)).2
    exact ⟨fun i k d e => (nomatch key i _ e), fun i e => (nomatch key i _ e)⟩
  | 0, p :: ps, ds, vs, j, rest, hb, h, a => by simp at h
  | n + 1, .st :: ps, ds, vs, j, rest, hb, h, ⟨ws, e, a⟩ => by
    subst e
    obtain ⟨h1, h2⟩ := startM_ok (O := O) (n := n) (j + 1) rest hb (by simpa using h) a
    refine ⟨fun i k d e => ?_, fun i e => ?_⟩
    · cases i with
      | zero => simp [startM] at e
      | succ i =>
        obtain ⟨v, e1, t⟩ := h1 i k d (by simpa [startM] using e)
        exact ⟨v, by simpa using e1, by rw [show j + (i + 1) = j + 1 + i by omega]; exact t⟩
    · cases i with
      | zero => simp
      | succ i => simpa using h2 i (by simpa [startM] using e)
  | n + 1, .vl :: ps, ds, vs, j, rest, hb, h, ⟨d, es, v, ws, e1, e2, r, a⟩ => by
    subst e1 e2
    obtain ⟨h1, h2⟩ := startM_ok (O := O) (n := n) (j + 1) rest hb (by simpa using h) a
    refine ⟨fun i k d' e => ?_, fun i e => ?_⟩
    · cases i with
      | zero =>
        simp only [startM, List.getElem?_cons_zero, Option.some.injEq, Slot.th.injEq] at e
        obtain ⟨rfl, rfl⟩ := e
        exact ⟨v, by simp, r⟩
      | succ i =>
        obtain ⟨v, e1, t⟩ := h1 i k d' (by simpa [startM] using e)
        exact ⟨v, by simpa using e1, by rw [show j + (i + 1) = j + 1 + i by omega]; exact t⟩
    · cases i with
      | zero => simp [startM] at e
      | succ i => simpa using h2 i (by simpa [startM] using e)
  | n + 1, .le :: ps, ds, vs, j, rest, hb, h, ⟨d, es, v, ws, e1, e2, r, a⟩ => by
    subst e1 e2
    obtain ⟨h1, h2⟩ := startM_ok (O := O) (n := n) (j + 1) rest hb (by simpa using h) a
    refine ⟨fun i k d' e => ?_, fun i e => ?_⟩
    · cases i with
      | zero =>
        simp only [startM, List.getElem?_cons_zero, Option.some.injEq, Slot.th.injEq] at e
        obtain ⟨rfl, rfl⟩ := e
        refine ⟨v, by simp, ?_⟩
        rcases r with r | ⟨p, e, c, n1, n2⟩
        · exact .inl r
        · exact .inr ⟨p, e, c, by rw [hb]; exact c.has, n1, n2⟩
      | succ i =>
        obtain ⟨v, e1, t⟩ := h1 i k d' (by simpa [startM] using e)
        exact ⟨v, by simpa using e1, by rw [show j + (i + 1) = j + 1 + i by omega]; exact t⟩
    · cases i with
      | zero => simp [startM] at e
      | succ i => simpa using h2 i (by simpa [startM] using e)

open Classical in
/-- a def's body keeps the promise of its own run -/
theorem body_sp {n : Nat} {ps : List Pm} {body : List S} {N : List Str} {vs : List V} {H : Hp} {Q : VK} {E : XK} (hN : N.length = n) (hn : ps.length ≤ n) (h : spF g fl (fnOf Φ n ps body) vs H Q E) :
    TSs g fl Φ body (fun cls d _ H => E cls d H) { nx := fun _ H' => Q .non H', rt := Q } (L2.start N vs) H := by
  obtain ⟨F, s, S, ds, x, sub, ha, hS, h0, h⟩ := h
  have hl := ha.len
  let b : Bs := ⟨F, H, S, if (fnOf Φ n ps body).hasSt then some s else none⟩
  have offS : ∀ p, S p → F p = none ∧ H p ≠ none := fun p hp => by
    cases x with
    | none => exact absurd hp (hS p)
    | some y => exact StAt.off (show StAt F H s S y from hS) p hp
  have st := startM_ok (g := g) (b := b) (O := fun p => if S p then some Tag.st else none) (n := n) 0 (List.replicate (N.length - vs.length) none) rfl hn ha
  have ok : Ok g b F (fun p => if S p then some Tag.st else none) s H { ρ := startM n ps ds, ds := x } (L2.start N vs) [] := by
    refine ⟨sub, fun p t e => ?_, Sub.refl F, fun p o e ns => ⟨e, id⟩, fun p e => e, fun p t e => ?_, ?_, fun i k d e => ?_, fun i e => ?_, fun i v k d e => by simp at e, fun y e => ?_, fun s0 e => ?_⟩
    · by_cases z : S p
      · exact offS p z
      · simp [z] at e
    · by_cases z : S p
      · simp only [if_pos z, Option.some.injEq] at e; subst e; exact .inr ⟨rfl, z⟩
      · simp [z] at e
    · rw [start_len (by rw [hl, hN]; exact hn), startM_len hn ha, hN]
    · obtain ⟨v, e1, t⟩ := st.1 i k d e
      exact ⟨v, e1, by rw [Nat.zero_add] at t; exact t⟩
    · exact st.2 i e
    · have e' : x = some y := e
      subst e'
      exact StAt.rel (show StAt F H s S y from hS) fun p z => if_pos z
    · show s = s0
      have e' : (if (fnOf Φ n ps body).hasSt then some s else none) = some s0 := e
      split at e'
      · cases e'; rfl
      · cases e'
  refine sndSs g fl Φ b body _ (L2.start N vs) H _ [] _ ⟨F, _, s, ok⟩ ?_
  have hsem : (fnOf Φ n ps body).sem = runFn Φ n ps body := rfl
  rw [hsem] at h
  unfold runFn at h
  -- what stands at the end
  have fin : ∀ {F' H' : Hp} {O' : Addr → Option Tag} {s' : Addr} {m : M} {σ' : L2.St} {τ : List Tm}, Ok g b F' O' s' H' m σ' τ → Left F H F' H' S ∧ ∃ S', StMaybe F' H' s S' (stOf ps m) ∧ (∀ p, S' p → S p ∨ H p = none) ∧ ∀ p, S' p → O' p = some .st := by
    intro F' H' O' s' m σ' τ ok'
    refine ⟨⟨ok'.fsub, ok'.sub, fun p o e ns => ok'.base p o e ns, ok'.ex⟩, ?_⟩
    cases hst : (fnOf Φ n ps body).hasSt with
    | false =>
      have e : stOf ps m = none := by
        unfold stOf
        have : hasStP ps = false := hst
        rw [this]; rfl
      rw [e]
      exact ⟨fun _ => False, fun _ z => z, fun _ z => z.elim, fun _ z => z.elim⟩
    | true =>
      have e : stOf ps m = m.ds := by
        unfold stOf
        have : hasStP ps = true := hst
        rw [this]; rfl
      rw [e]
      have es : s' = s := ok'.so s (by show (if (fnOf Φ n ps body).hasSt then some s else none) = some s; rw [hst]; rfl)
      subst es
      cases hd : m.ds with
      | none => exact ⟨fun _ => False, fun _ z => z, fun _ z => z.elim, fun _ z => z.elim⟩
      | some y =>
        obtain ⟨S', q1, q2, _⟩ := (ok'.stt y hd).cells ok'.off
        refine ⟨S', q1, fun p z => ?_, q2⟩
        rcases ok'.new p _ (q2 p z) with w | ⟨_, w⟩
        · exact .inr w
        · exact .inl w
  have mk : ∀ {F' H' : Hp} {O' : Addr → Option Tag} {s' : Addr} {m : M} {σ' : L2.St} {v : V} {k : Kd} {d : D}, (k = .fr ∨ k = .ow) → Ok g b F' O' s' H' m σ' ([] ++ [(v, k, d)]) → Made g F H F' H' v k d ∧ ∀ S' : Addr → Prop, (∀ p, S' p → O' p = some .st) → k = .ow → ∀ p, S' p → v ≠ .ref p := by
    intro F' H' O' s' m σ' v k d hk ok'
    have t := ok'.temps 0 v k d (by simp)
    rcases hk with rfl | rfl
    · exact ⟨t, fun S' _ z => by cases z⟩
    · obtain ⟨p, rfl, op, c⟩ := t
      refine ⟨⟨p, rfl, ?_, (ok'.off p _ op).1, c⟩, fun S' hs _ q hq z => ?_⟩
      · rcases ok'.new p _ op with w | ⟨w, _⟩
        · exact w
        · cases w
      · cases z
        rw [hs p hq] at op; cases op
  cases r : exs Φ body { ρ := startM n ps ds, ds := x } with
  | no => rw [r] at h; exact h.elim
  | brk m => rw [r] at h; exact h.elim
  | cnt m => rw [r] at h; exact h.elim
  | nx m =>
    rw [r] at h
    intro σ' H' ⟨F', O', s', ok'⟩
    obtain ⟨L, S', q1, q2, q3⟩ := fin ok'
    exact h .non F' H' S' L q1 q2 (Rep.scal_non : Rep g F' .non .non) (fun z => by cases z)
  | ret k d m =>
    rw [r] at h
    intro v σ' H' ⟨F', O', s', ok'⟩
    obtain ⟨L, S', q1, q2, q3⟩ := fin ok'
    cases k with
    | fr => obtain ⟨m1, m2⟩ := mk (.inl rfl) ok'; exact h v F' H' S' L q1 q2 m1 (m2 S' q3)
    | ow => obtain ⟨m1, m2⟩ := mk (.inr rfl) ok'; exact h v F' H' S' L q1 q2 m1 (m2 S' q3)
    | le => exact h.elim
    | un => exact h.elim
  | ex c d m =>
    rw [r] at h
    intro σ' v dx H' ⟨F', O', s', ok', hd⟩
    obtain ⟨L, S', q1, q2, q3⟩ := fin ok'
    exact h v dx F' H' S' L q1 q2 (ok'.temps 0 v .fr d (by simp)) hd
/-- THE RULE for a def of the text -/
theorem fn_ok {P : Program} {w : World} {mg : Str → Option Value} {base : Heap} {x qual : Str} {st : Stmt} {f : Addr} {fd : FuncData} {N pn : List Str} {k n : Nat} {ps : List Pm} {body : List S}
    (F : Fun g.K x qual st f fd) (Sc : FnScope N pn (defScope st)) (hN : N.length = n) (hn : ps.length ≤ n) (hp : ps.length = pn.length)
    (hb : ∀ (cdv : Value) (A : Around) (outer : List Env) (s : Shared) (H : Hp) (E : XK) (hr : Room k (A.deeper (envOfC qual (defScope st) s.heap.objs.size f cdv))),
      PSs (cxOf (L2.CX P w) P w g.K mg base N qual (defScope st) f cdv A outer s H E) (defBody st) (TSs g fl Φ body (fun cls d _ H => E cls d H))) :
    FnOk P w g.K mg base (L2.CX P w) (k + 1) f fd pn (spF g fl (fnOf Φ n ps body)) := by
  refine F.okX Sc (fun vs H Q E h => ?_) (fun cdv A outer s H vs Q E hr h => ⟨_, hb cdv A outer s H E hr, body_sp hN hn h⟩)
  obtain ⟨F, s, S, ds, x, _, ha, _⟩ := h
  rw [ha.len, ← hp]; rfl
end
end VI

set_option Elab.async false
set_option linter.all false
set_option maxRecDepth 100000
namespace VI
open PySem PySem.Spec PyProof.Rows L2

/-! ### rules of the layer in the words of this language -/
section
variable {X : Cx} {g : Gm} {fl : Str → Str} {Φ : Nat → Option Fn} {W : WX} {a b c e : Expr} {ea eb ec ee : E} {pos : Pos}
abbrev Pe (X : Cx) (g : Gm) (fl : Str → Str) (Φ : Nat → Option Fn) (W : WX) (x : Expr) (ex : E) : Prop := PE X x (T g fl Φ ex W)
abbrev Pt (X : Cx) (g : Gm) (fl : Str → Str) (Φ : Nat → Option Fn) (W : WX) (x : Expr) (ex : E) : Prop := PT X x (TT' g fl Φ ex W)
abbrev Pa (X : Cx) (g : Gm) (fl : Str → Str) (Φ : Nat → Option Fn) (W : WX) (xs : List Expr) (es : List E) (cs : List V) : Prop := PA X xs (TL g fl Φ es cs W)
theorem w_nil : Pa X g fl Φ W [] [] [] := pa_nil
theorem w_cons {es : List Expr} {is : List E} {cs : List V} (ha : Pe X g fl Φ W e ee) (hr : Pa X g fl Φ W es is cs) (hs : starEach (e :: es) X.env = (false, eval e X.env) :: starEach es X.env := by rfl) : Pa X g fl Φ W (e :: es) (ee :: is) cs := pa_cons ha hr hs
theorem w_var (i : Nat) {x : Str} (hN : X.N[i]? = some x := by rfl) (hv : Vis X.env.scope x := by first | exact Or.inl rfl | exact Or.inr (Or.inl rfl) | exact Or.inr (Or.inr rfl)) (hd : (x == ("__debug__" : Str)) = false := by decide)
    (hcd : (x == ("__classdict__" : Str)) = false := by decide) : Pe X g fl Φ W (.Name x pos) (.var i) := pe_var hN hv hd hcd
theorem w_int {i : Int} {j} : Pe X g fl Φ W (.Constant (.int i) j pos) (.cst (.int i)) := pe_int
theorem w_bl {i : Bool} {j} : Pe X g fl Φ W (.Constant (.bool i) j pos) (.cst (.bl i)) := pe_bl
theorem w_str {i : Str} {j} : Pe X g fl Φ W (.Constant (.str i) j pos) (.cst (.str i)) := pe_str
theorem w_non {j} : Pe X g fl Φ W (.Constant .none j pos) (.cst .non) := pe_non
/-- a module's constant -/
theorem w_glob {x : Str} {cc : C} {u : Value} (hg : Gl X x) (hm : X.mg x = some u) (r : RelV cc.v u) (hd : (x == ("__debug__" : Str)) = false := by decide) : Pe X g fl Φ W (.Name x pos) (.cst cc) := by
  first
  | exact pe_glob hg hm r hd
  | exact pe_glob hg hm r
/-! operators -/
theorem w_bin {o : Op} {op : Operator} {r : R2} (ho : OpR X (binaryOp op) r) (hr : rel g.K o = r2 r) (ht : o.tail = []) (ha : Pe X g fl Φ W a ea) (hb : Pe X g fl Φ W b eb) : Pe X g fl Φ W (.BinOp a op b pos) (.op o [ea, eb]) :=
  ⟨fun pins s σ H Q I h => (pe_op ho ha hb).run pins s σ H Q I (by
    have h' : tCB (rel g.K o) (TL g fl Φ [ea, eb] o.tail W) σ H Q := h
    rw [hr, ht] at h'; exact h')⟩
theorem w_cmp {o : Op} {op : CmpOp} {r : R2} (ho : OpR X (compareOp op) r) (hr : rel g.K o = r2 r) (ht : o.tail = []) (ha : Pe X g fl Φ W a ea) (hb : Pe X g fl Φ W b eb) (hm : behindInMarks op b = false) : Pe X g fl Φ W (.Compare a [op] [b] pos) (.op o [ea, eb]) :=
  ⟨fun pins s σ H Q I h => (pe_cmpR ho ha hb hm).run pins s σ H Q I (by
    have h' : tCB (rel g.K o) (TL g fl Φ [ea, eb] o.tail W) σ H Q := h
    rw [hr, ht] at h'; exact h')⟩
theorem t_cmp {o : Op} {op : CmpOp} {r : R2} (ho : OpR X (compareOp op) r) (hr : rel g.K o = r2 r) (ht : o.tail = []) (hc : o.cmp = true) (ha : Pe X g fl Φ W a ea) (hb : Pe X g fl Φ W b eb) (hm : behindInMarks op b = false) : Pt X g fl Φ W (.Compare a [op] [b] pos) (.op o [ea, eb]) :=
  ⟨fun pins s σ H Q I h => (pt_cmpR ho ha hb hm).run pins s σ H Q I (by
    have h' : (if o.cmp then tTest (tCB (rel g.K o) (TL g fl Φ [ea, eb] o.tail W)) else tTru g.K (tCB (rel g.K o) (TL g fl Φ [ea, eb] o.tail W))) σ H Q := h
    rw [hc, if_pos rfl, hr, ht] at h'; exact h')⟩
theorem or_ok {f : Value → Value → Sem Value} {r r' : R2} (h : OpR X f r) (h' : OpR X f r') : OpR X f (orr r r') := OpR.or h h'
theorem op_inSg : OpR X (compareOp .In) (rInSg false) := op_in_sign
theorem op_ninSg : OpR X (compareOp .NotIn) (rInSg true) := op_notIn_sign
theorem op_isNo : OpR X (compareOp .Is) (rIsNo false) := op_isN
theorem op_notNo : OpR X (compareOp .IsNot) (rIsNo true) := op_notN
end

/-- what is asked of a body's context -/
structure CxOk (X : Cx) (g : Gm) : Prop where
  hK : X.K = g.K
  hu : X.A.units + 200 < cLine
  hc : X.calm = true
section
variable {X : Cx} {g : Gm} {fl : Str → Str} {Φ : Nat → Option Fn} {W : WX} {a b c e : Expr} {ea eb ec ee : E} {pos : Pos}
theorem w_add (k : CxOk X g) (ha : Pe X g fl Φ W a ea) (hb : Pe X g fl Φ W b eb) : Pe X g fl Φ W (.BinOp a .Add b pos) (.op .add [ea, eb]) :=
  w_bin (r := orr (rI0 fun i j => .int (i + j)) (orr rStrCat (orr rCat (rCatA g.K)))) (or_ok L2.op_add (or_ok op_add_str (or_ok op_cat (by rw [← k.hK]; exact op_catA)))) rfl rfl ha hb
theorem w_sub (ha : Pe X g fl Φ W a ea) (hb : Pe X g fl Φ W b eb) : Pe X g fl Φ W (.BinOp a .Sub b pos) (.op .sub [ea, eb]) := w_bin op_sub rfl rfl ha hb
theorem w_mul (ha : Pe X g fl Φ W a ea) (hb : Pe X g fl Φ W b eb) : Pe X g fl Φ W (.BinOp a .Mult b pos) (.op .mul [ea, eb]) := w_bin (or_ok op_mulW op_rep) rfl rfl ha hb
theorem w_fdv (ha : Pe X g fl Φ W a ea) (hb : Pe X g fl Φ W b eb) : Pe X g fl Φ W (.BinOp a .FloorDiv b pos) (.op .fdv [ea, eb]) := w_bin op_fdivW rfl rfl ha hb
theorem w_mod (ha : Pe X g fl Φ W a ea) (hb : Pe X g fl Φ W b eb) : Pe X g fl Φ W (.BinOp a .Mod b pos) (.op .mod [ea, eb]) := w_bin op_mod rfl rfl ha hb
theorem w_pow (ha : Pe X g fl Φ W a ea) (hb : Pe X g fl Φ W b eb) : Pe X g fl Φ W (.BinOp a .Pow b pos) (.op .pow [ea, eb]) := w_bin op_pow rfl rfl ha hb
theorem w_neg (ha : Pe X g fl Φ W a ea) : Pe X g fl Φ W (.UnaryOp .USub a pos) (.op .neg [ea]) := ⟨fun pins s σ H Q I h => (pe_un un_neg ha).run pins s σ H Q I h⟩
theorem hu64 (k : CxOk X g) : X.A.units + 64 < cLine := by have := k.hu; omega
theorem o_eq (k : CxOk X g) : OpR X (compareOp .Eq) (rEqD g.K) := by rw [← k.hK]; exact op_eqD (hu64 k)
theorem o_ne (k : CxOk X g) : OpR X (compareOp .NotEq) (rNeD g.K) := by rw [← k.hK]; exact op_neD (hu64 k)
theorem w_eq (k : CxOk X g) (ha : Pe X g fl Φ W a ea) (hb : Pe X g fl Φ W b eb) : Pe X g fl Φ W (.Compare a [.Eq] [b] pos) (.op .eq [ea, eb]) := w_cmp (o_eq k) rfl rfl ha hb (nomark _)
theorem w_ne (k : CxOk X g) (ha : Pe X g fl Φ W a ea) (hb : Pe X g fl Φ W b eb) : Pe X g fl Φ W (.Compare a [.NotEq] [b] pos) (.op .ne [ea, eb]) := w_cmp (o_ne k) rfl rfl ha hb (nomark _)
theorem w_lt (ha : Pe X g fl Φ W a ea) (hb : Pe X g fl Φ W b eb) : Pe X g fl Φ W (.Compare a [.Lt] [b] pos) (.op .lt [ea, eb]) := w_cmp (or_ok L2.op_lt op_lt_str) rfl rfl ha hb (nomark _)
theorem w_le (ha : Pe X g fl Φ W a ea) (hb : Pe X g fl Φ W b eb) : Pe X g fl Φ W (.Compare a [.LtE] [b] pos) (.op .le [ea, eb]) := w_cmp op_le rfl rfl ha hb (nomark _)
theorem w_gt (ha : Pe X g fl Φ W a ea) (hb : Pe X g fl Φ W b eb) : Pe X g fl Φ W (.Compare a [.Gt] [b] pos) (.op .gt [ea, eb]) := w_cmp op_gt rfl rfl ha hb (nomark _)
theorem w_ge (ha : Pe X g fl Φ W a ea) (hb : Pe X g fl Φ W b eb) : Pe X g fl Φ W (.Compare a [.GtE] [b] pos) (.op .ge [ea, eb]) := w_cmp op_ge rfl rfl ha hb (nomark _)
theorem w_in (ha : Pe X g fl Φ W a ea) (hb : Pe X g fl Φ W b eb) (hm : behindInMarks .In b = false := by with_unfolding_all rfl) : Pe X g fl Φ W (.Compare a [.In] [b] pos) (.op .isin [ea, eb]) := w_cmp op_inSg rfl rfl ha hb hm
theorem w_nin (ha : Pe X g fl Φ W a ea) (hb : Pe X g fl Φ W b eb) (hm : behindInMarks .NotIn b = false := by with_unfolding_all rfl) : Pe X g fl Φ W (.Compare a [.NotIn] [b] pos) (.op .nin [ea, eb]) := w_cmp op_ninSg rfl rfl ha hb hm
theorem w_isN (ha : Pe X g fl Φ W a ea) (hb : Pe X g fl Φ W b eb) : Pe X g fl Φ W (.Compare a [.Is] [b] pos) (.op .isN [ea, eb]) := w_cmp op_isNo rfl rfl ha hb (nomark _)
theorem w_notN (ha : Pe X g fl Φ W a ea) (hb : Pe X g fl Φ W b eb) : Pe X g fl Φ W (.Compare a [.IsNot] [b] pos) (.op .notN [ea, eb]) := w_cmp op_notNo rfl rfl ha hb (nomark _)
theorem t_eq (k : CxOk X g) (ha : Pe X g fl Φ W a ea) (hb : Pe X g fl Φ W b eb) : Pt X g fl Φ W (.Compare a [.Eq] [b] pos) (.op .eq [ea, eb]) := t_cmp (o_eq k) rfl rfl rfl ha hb (nomark _)
theorem t_ne (k : CxOk X g) (ha : Pe X g fl Φ W a ea) (hb : Pe X g fl Φ W b eb) : Pt X g fl Φ W (.Compare a [.NotEq] [b] pos) (.op .ne [ea, eb]) := t_cmp (o_ne k) rfl rfl rfl ha hb (nomark _)
theorem t_lt (ha : Pe X g fl Φ W a ea) (hb : Pe X g fl Φ W b eb) : Pt X g fl Φ W (.Compare a [.Lt] [b] pos) (.op .lt [ea, eb]) := t_cmp (or_ok L2.op_lt op_lt_str) rfl rfl rfl ha hb (nomark _)
theorem t_le (ha : Pe X g fl Φ W a ea) (hb : Pe X g fl Φ W b eb) : Pt X g fl Φ W (.Compare a [.LtE] [b] pos) (.op .le [ea, eb]) := t_cmp op_le rfl rfl rfl ha hb (nomark _)
theorem t_gt (ha : Pe X g fl Φ W a ea) (hb : Pe X g fl Φ W b eb) : Pt X g fl Φ W (.Compare a [.Gt] [b] pos) (.op .gt [ea, eb]) := t_cmp op_gt rfl rfl rfl ha hb (nomark _)
theorem t_ge (ha : Pe X g fl Φ W a ea) (hb : Pe X g fl Φ W b eb) : Pt X g fl Φ W (.Compare a [.GtE] [b] pos) (.op .ge [ea, eb]) := t_cmp op_ge rfl rfl rfl ha hb (nomark _)
theorem t_in (ha : Pe X g fl Φ W a ea) (hb : Pe X g fl Φ W b eb) (hm : behindInMarks .In b = false := by with_unfolding_all rfl) : Pt X g fl Φ W (.Compare a [.In] [b] pos) (.op .isin [ea, eb]) := t_cmp op_inSg rfl rfl rfl ha hb hm
theorem t_nin (ha : Pe X g fl Φ W a ea) (hb : Pe X g fl Φ W b eb) (hm : behindInMarks .NotIn b = false := by with_unfolding_all rfl) : Pt X g fl Φ W (.Compare a [.NotIn] [b] pos) (.op .nin [ea, eb]) := t_cmp op_ninSg rfl rfl rfl ha hb hm
/-! truth -/
theorem w_one {op} (h : Pe X g fl Φ W a ea) : Pe X g fl Φ W (.BoolOp op [a] pos) ea := pe_one h
theorem w_and {rest : List Expr} (k : CxOk X g) (ha : Pe X g fl Φ W a ea) (hb : Pe X g fl Φ W (.BoolOp .And (b :: rest) pos) eb) : Pe X g fl Φ W (.BoolOp .And (a :: b :: rest) pos) (.andE ea eb) := by
  show PE X _ (tAndT g.K _ _)
  rw [← k.hK]; exact pe_andT ha hb
theorem w_or {rest : List Expr} (k : CxOk X g) (ha : Pe X g fl Φ W a ea) (hb : Pe X g fl Φ W (.BoolOp .Or (b :: rest) pos) eb) : Pe X g fl Φ W (.BoolOp .Or (a :: b :: rest) pos) (.orE ea eb) := by
  show PE X _ (tOrT g.K _ _)
  rw [← k.hK]; exact pe_orT ha hb
theorem w_not (k : CxOk X g) (ha : Pe X g fl Φ W a ea) : Pe X g fl Φ W (.UnaryOp .Not a pos) (.notE ea) := by
  show PE X _ (tNotT g.K _)
  rw [← k.hK]; exact pe_notT ha
abbrev Pw (X : Cx) (g : Gm) (fl : Str → Str) (Φ : Nat → Option Fn) (W : WX) (x : Expr) (ex : E) : Prop := PW X x (TT' g fl Φ ex W)
theorem t_and1 (ha : Pt X g fl Φ W a ea) : Pw X g fl Φ W (.BoolOp .And [a] pos) ea := pw_and1 ha
theorem t_or1 (ha : Pt X g fl Φ W a ea) : Pw X g fl Φ W (.BoolOp .Or [a] pos) ea := pw_or1 ha
theorem t_and {rest : List Expr} (ha : Pt X g fl Φ W a ea) (hb : Pw X g fl Φ W (.BoolOp .And (b :: rest) pos) eb) : Pw X g fl Φ W (.BoolOp .And (a :: b :: rest) pos) (.andE ea eb) := pw_and ha hb
theorem t_or {rest : List Expr} (ha : Pt X g fl Φ W a ea) (hb : Pw X g fl Φ W (.BoolOp .Or (b :: rest) pos) eb) : Pw X g fl Φ W (.BoolOp .Or (a :: b :: rest) pos) (.orE ea eb) := pw_or ha hb
theorem t_pw (h : Pw X g fl Φ W a ea) : Pt X g fl Φ W a ea := h.pt
theorem t_not (ha : Pt X g fl Φ W a ea) : Pt X g fl Φ W (.UnaryOp .Not a pos) (.notE ea) := pt_not ha
/-- a name, a call: its own truth -/
theorem t_tru (k : CxOk X g) (ha : Pe X g fl Φ W a ea) (he : ∀ whole, isTrue a X.env whole = (do let v ← whole; standAt a.pos; holding [v] (truthy v)) := by intro _; rfl) : PT X a (tTru g.K (T g fl Φ ea W)) := by
  rw [← k.hK]; exact pt_truth ha he
theorem t_var (k : CxOk X g) {i : Nat} (ha : Pe X g fl Φ W a (.var i)) (he : ∀ whole, isTrue a X.env whole = (do let v ← whole; standAt a.pos; holding [v] (truthy v)) := by intro _; rfl) : Pt X g fl Φ W a (.var i) := t_tru k ha he
theorem t_call (k : CxOk X g) {f : Nat} {es : List E} (ha : Pe X g fl Φ W a (.call f es)) (he : ∀ whole, isTrue a X.env whole = (do let v ← whole; standAt a.pos; holding [v] (truthy v)) := by intro _; rfl) : Pt X g fl Φ W a (.call f es) := t_tru k ha he
theorem t_op (k : CxOk X g) {o : Op} {es : List E} (ha : Pe X g fl Φ W a (.op o es)) (hc : o.cmp = false := by rfl) (he : ∀ whole, isTrue a X.env whole = (do let v ← whole; standAt a.pos; holding [v] (truthy v)) := by intro _; rfl) : Pt X g fl Φ W a (.op o es) := by
  have h := t_tru k ha he
  have e : TT' g fl Φ (.op o es) W = tTru g.K (T g fl Φ (.op o es) W) := by simp only [TT', hc, Bool.false_eq_true, if_false, T]
  show PT X a (TT' g fl Φ (.op o es) W)
  rw [e]; exact h
theorem w_ite (hc : Pt X g fl Φ W c ec) (ha : Pe X g fl Φ W a ea) (hb : Pe X g fl Φ W b eb) : Pe X g fl Φ W (.IfExp c a b pos) (.ite ec ea eb) := pe_ifExp hc ha hb
/-! displays, subscripts -/
theorem w_lst {es : List Expr} {is : List E} (h : Pa X g fl Φ W es is []) : Pe X g fl Φ W (.List es pos) (.op .mkl is) := pe_lst h
theorem w_tup {es : List Expr} {is : List E} {x1} (h : Pa X g fl Φ W es is []) : Pe X g fl Φ W (.Tuple es x1 pos) (.op .mkt is) := pe_tup h
theorem w_ix (k : CxOk X g) (ha : Pe X g fl Φ W a ea) (hb : Pe X g fl Φ W b eb) (hs : PlainIx b := by exact fun _ _ => rfl) : Pe X g fl Φ W (.Subscript a b pos) (.op .ix [ea, eb]) := by
  have h := pe_ix (pos := pos) ix_seq ha hb hs
  rw [k.hK] at h
  exact ⟨fun pins s σ H Q I q => h.run pins s σ H Q I q⟩
theorem sl_all (k : CxOk X g) : SlR X (rSlU g.K) := by
  rw [← k.hK]; exact SlR.or sl_list (SlR.or sl_tupA sl_str)
theorem w_slcH {hi : Expr} {eh : E} {p2 : Pos} (k : CxOk X g) (ha : Pe X g fl Φ W a ea) (hh : Pe X g fl Φ W hi eh) : Pe X g fl Φ W (.Subscript a (.Slice none (some hi) none p2) pos) (.slcH ea eh) := pe_slice (sl_all k) ha po_none (po_some hh)
theorem w_slcL {lo : Expr} {el : E} {p2 : Pos} (k : CxOk X g) (ha : Pe X g fl Φ W a ea) (hl : Pe X g fl Φ W lo el) : Pe X g fl Φ W (.Subscript a (.Slice (some lo) none none p2) pos) (.slcL ea el) := pe_slice (sl_all k) ha (po_some hl) po_none
theorem w_slcB {lo hi : Expr} {el eh : E} {p2 : Pos} (k : CxOk X g) (ha : Pe X g fl Φ W a ea) (hl : Pe X g fl Φ W lo el) (hh : Pe X g fl Φ W hi eh) : Pe X g fl Φ W (.Subscript a (.Slice (some lo) (some hi) none p2) pos) (.slcB ea el eh) := pe_slice (sl_all k) ha (po_some hl) (po_some hh)
theorem rev_filter (z : Str) : (Builtin.Str.strSliceIndices none none (-1) z.length).filterMap (z.cps[·]?) = z.cps.toList.reverse := by
  have e : Builtin.Str.strSliceIndices none none (-1) z.length = (List.range z.length).reverse := by
    have h1 := PySem.W.krv_sliceRange z.length
    have h2 := PySem.W.krv_range z.length
    show sliceRange ((z.length : Int) - 1) (-1) (-1) = _
    rw [h1, h2]
  rw [e, List.filterMap_reverse, show z.length = z.cps.size from rfl, PySem.W.krv_all]
theorem w_rev (k : CxOk X g) {kk : Nat} {p1 p2 p3 : Pos} (ha : Pe X g fl Φ W a ea) : Pe X g fl Φ W (.Subscript a (.Slice none none (some (.UnaryOp .USub (.Constant (.int 1) kk p1) p2)) p3) pos) (.op .rev [ea]) := by
  refine ⟨fun pins s σ H Q I h => ?_⟩
  have h' : T g fl Φ ea W σ H fun x H1 => rRevU g.K x H1 Q := h
  refine Subscript_ (thn (ha.run pins s σ H _ I h') fun v s1 ⟨x, H1, I1, r1, q1⟩ => ?_)
  have hst : PO X (some (.UnaryOp .USub (.Constant (.int 1) kk p1) p2)) (tPart (tUn (rU fun i => .int (-i)) (tC (.int 1)))) := po_some (pe_un un_neg pe_int)
  refine wpAny_Slice (thn (po_none.run pins s1 σ H1 (fun o H2 => o = none ∧ H2 = H1) I1 ⟨rfl, rfl⟩) fun vl s2 ⟨l, H2, I2, pl, el, e2⟩ => ?_)
  subst el e2
  refine thn (po_none.run pins s2 σ H2 (fun o H3 => o = none ∧ H3 = H2) I2 ⟨rfl, rfl⟩) fun vu s3 ⟨u, H3, I3, pu, eu, e3⟩ => ?_
  subst eu e3
  refine thn (hst.run pins s3 σ H3 (fun o H4 => o = some (-1) ∧ H4 = H3) I3 ⟨1, rfl, -1, rfl, rfl, rfl⟩) fun vs s4 ⟨o, H4, I4, ps, eo, e4⟩ => ?_
  subst eo e4
  have I5 : Inv X pins σ H4 { s4 with heap := s4.heap.push { cls := .type "slice", data := .fields #[vl, vu, vs] } } := I4.kept (t' := s4.toks) fun b ob q => Heap.get?_push_of_some _ q
  rcases q1 with ⟨a', xs, rfl, hx, q⟩ | ⟨z, rfl, hz, q⟩
  · rw [← k.hK] at hx
    cases r1
    obtain ⟨its, r, ht, hz⟩ := I5.list hx
    have hlen := r.length
    show wpAny (model X.prog X.w) X.A (subscriptTail a (.Slice none none (some (.UnaryOp .USub (.Constant (.int 1) kk p1) p2)) p3) (.ref a') (.ref s4.heap.objs.size)) (EP X pins σ Q) X.xe { s4 with heap := s4.heap.push { cls := .type "slice", data := .fields #[vl, vu, vs] } }
    refine tail_any (ops := [.ref a', .ref s4.heap.objs.size]) ht.isList.typeIs (PySem.slot_list_getitem.lookup) ?_ (by with_unfolding_all rfl)
    refine wpAny_getItem_list_slice ht.isList (Heap.IsSliceOf.new _ vl vu vs) pl pu ps (by decide) ?_ (by rw [List.size_toArray]; omega)
    rw [PySem.W.krv_pick]
    refine ⟨.ref _, _, I5.laid (t' := s4.toks) (o := .lst xs.reverse) (fun b ob q => Heap.get?_push_of_some _ q) (Nat.le_refl _) ?_, rfl, q _ (I5.hok.fresh (Nat.le_refl _))⟩
    exact ⟨by rw [List.length_reverse]; exact hz, _, 0, r.reverse, Heap.get?_push_size _ rfl⟩
  · obtain ⟨t, rfl⟩ := r1
    obtain ⟨l, rfl, e1⟩ := IsPart.raw pl
    obtain ⟨u, rfl, e2⟩ := IsPart.raw pu
    obtain ⟨st, rfl, e3⟩ := IsPart.raw ps
    show wpAny (model X.prog X.w) X.A (subscriptTail a (.Slice none none (some (.UnaryOp .USub (.Constant (.int 1) kk p1) p2)) p3) (.str z t) (.ref s4.heap.objs.size)) (EP X pins σ Q) X.xe { s4 with heap := s4.heap.push { cls := .type "slice", data := .fields #[partValue l, partValue u, partValue st] } }
    refine tail_any (ops := [.str z t, .ref s4.heap.objs.size]) (typeIs_str _ _ _) (F.slot_str_getitem.lookup) ?_ (by with_unfolding_all rfl)
    refine wpAny_getItem_str_slice (l := l) (u := u) (st := st) ⟨_, Heap.get?_push_size _ rfl, rfl, rfl⟩ (by rw [e3]; rfl) ?_
    have hp : slicePicked z l u st = Builtin.Str.strSliceIndices none none (-1) z.length := by
      unfold slicePicked
      rw [e1, e2, e3]; rfl
    unfold sliceMade
    rw [hp, rev_filter]
    rw [if_neg (by rw [e3]; show ¬ (((-1 : Int) == 1) && _) = true; rw [show ((-1 : Int) == 1) = false from rfl, Bool.false_and]; exact Bool.false_ne_true)]
    refine ⟨?_, .str _, _, I5.tok _, ⟨_, rfl⟩, q⟩
    show (⟨z.cps.toList.reverse.toArray⟩ : Str).length ≤ sizeLine
    have : (⟨z.cps.toList.reverse.toArray⟩ : Str).length = z.length := by
      show (z.cps.toList.reverse.toArray).size = z.cps.size
      simp
    rw [this]; exact hz
end
end VI

set_option Elab.async false
set_option linter.all false
set_option maxRecDepth 100000
namespace VI
open PySem PySem.Spec PyProof.Rows L2
section
variable {X : Cx} {g : Gm} {fl : Str → Str} {Φ : Nat → Option Fn} {W : WX} {a b c e : Expr} {ea eb ec ee : E} {pos p : Pos} {es : List Expr} {is : List E}
/-! built-ins by name -/
theorem w_callB {o : Op} {id : String} {x : Str} {r : List V → Hp → VK → Prop} (k : CxOk X g) (hc : CallR X (.builtin id) r) (hr : rel X.K o = r) (ht : o.tail = []) (hg : Gl X x) (hm : X.mg x = none) (hv : bootBuiltins x = some (.builtin id)) (ha : Pa X g fl Φ W (a :: es) is [])
    (hn : x ≠ "__name__" := by decide) (hdb : (x == ("__debug__" : Str)) = false := by decide) (he : starEach (a :: es) X.env = (false, eval a X.env) :: starEach es X.env := by rfl) (hpl : (backTo pos (starEach es X.env)).any (·.1) = false := by rfl) :
    Pe X g fl Φ W (.Call (.Name x p) (a :: es) [] pos) (.op o is) :=
  ⟨fun pins s σ H Q I h => (pe_callB hc hg hm hv ha hn hdb he hpl).run pins s σ H Q I (by
    have h' : tCB (rel g.K o) (TL g fl Φ is o.tail W) σ H Q := h
    rw [ht, ← k.hK, hr] at h'; exact h')⟩
theorem w_callT {o : Op} {id : String} {x : Str} {r : List V → Hp → VK → Prop} (k : CxOk X g) (hc : CallR X (.type id) r) (hr : rel X.K o = r) (ht : o.tail = []) (hg : Gl X x) (hm : X.mg x = none) (hv : bootBuiltins x = some (.type id)) (ha : Pa X g fl Φ W (a :: es) is [])
    (hn : x ≠ "__name__" := by decide) (hdb : (x == ("__debug__" : Str)) = false := by decide) (he : starEach (a :: es) X.env = (false, eval a X.env) :: starEach es X.env := by rfl) (hpl : (backTo pos (starEach es X.env)).any (·.1) = false := by rfl) :
    Pe X g fl Φ W (.Call (.Name x p) (a :: es) [] pos) (.op o is) :=
  ⟨fun pins s σ H Q I h => (pe_callTy hc hg hm hv ha hn hdb he hpl).run pins s σ H Q I (by
    have h' : tCB (rel g.K o) (TL g fl Φ is o.tail W) σ H Q := h
    rw [ht, ← k.hK, hr] at h'; exact h')⟩
theorem w_len (k : CxOk X g) (hm : X.mg "len" = none) (ha : Pa X g fl Φ W (a :: es) is []) (hg : Gl X "len" := by rfl) (he : starEach (a :: es) X.env = (false, eval a X.env) :: starEach es X.env := by rfl) (hpl : (backTo pos (starEach es X.env)).any (·.1) = false := by rfl) :
    Pe X g fl Φ W (.Call (.Name "len" p) (a :: es) [] pos) (.op .len is) := w_callB k call_len rfl rfl hg hm (by decide +kernel) ha (he := he) (hpl := hpl)
theorem w_abs (k : CxOk X g) (hm : X.mg "abs" = none) (ha : Pa X g fl Φ W (a :: es) is []) (hg : Gl X "abs" := by rfl) (he : starEach (a :: es) X.env = (false, eval a X.env) :: starEach es X.env := by rfl) (hpl : (backTo pos (starEach es X.env)).any (·.1) = false := by rfl) :
    Pe X g fl Φ W (.Call (.Name "abs" p) (a :: es) [] pos) (.op .abs is) := w_callB k call_abs rfl rfl hg hm (by decide +kernel) ha (he := he) (hpl := hpl)
theorem w_max2 (k : CxOk X g) (hm : X.mg "max" = none) (ha : Pa X g fl Φ W (a :: es) is []) (hg : Gl X "max" := by rfl) (he : starEach (a :: es) X.env = (false, eval a X.env) :: starEach es X.env := by rfl) (hpl : (backTo pos (starEach es X.env)).any (·.1) = false := by rfl) :
    Pe X g fl Φ W (.Call (.Name "max" p) (a :: es) [] pos) (.op .max2 is) := w_callB k (call_max2 k.hc) rfl rfl hg hm (by decide +kernel) ha (he := he) (hpl := hpl)
theorem w_all (k : CxOk X g) (hm : X.mg "all" = none) (ha : Pa X g fl Φ W (a :: es) is []) (hg : Gl X "all" := by rfl) (he : starEach (a :: es) X.env = (false, eval a X.env) :: starEach es X.env := by rfl) (hpl : (backTo pos (starEach es X.env)).any (·.1) = false := by rfl) :
    Pe X g fl Φ W (.Call (.Name "all" p) (a :: es) [] pos) (.op .all is) := w_callB k (cr_all k.hc) rfl rfl hg hm (by decide +kernel) ha (he := he) (hpl := hpl)
theorem w_any (k : CxOk X g) (hm : X.mg "any" = none) (ha : Pa X g fl Φ W (a :: es) is []) (hg : Gl X "any" := by rfl) (he : starEach (a :: es) X.env = (false, eval a X.env) :: starEach es X.env := by rfl) (hpl : (backTo pos (starEach es X.env)).any (·.1) = false := by rfl) :
    Pe X g fl Φ W (.Call (.Name "any" p) (a :: es) [] pos) (.op .any is) := w_callB k (cr_any k.hc) rfl rfl hg hm (by decide +kernel) ha (he := he) (hpl := hpl)
theorem w_toInt (k : CxOk X g) (hm : X.mg "int" = none) (ha : Pa X g fl Φ W (a :: es) is []) (hg : Gl X "int" := by rfl) (he : starEach (a :: es) X.env = (false, eval a X.env) :: starEach es X.env := by rfl) (hpl : (backTo pos (starEach es X.env)).any (·.1) = false := by rfl) :
    Pe X g fl Φ W (.Call (.Name "int" p) (a :: es) [] pos) (.op .int is) := w_callT k call_int1 rfl rfl hg hm (by decide +kernel) ha (he := he) (hpl := hpl)
theorem w_list (k : CxOk X g) (hm : X.mg "list" = none) (ha : Pa X g fl Φ W (a :: es) is []) (hg : Gl X "list" := by rfl) (he : starEach (a :: es) X.env = (false, eval a X.env) :: starEach es X.env := by rfl) (hpl : (backTo pos (starEach es X.env)).any (·.1) = false := by rfl) :
    Pe X g fl Φ W (.Call (.Name "list" p) (a :: es) [] pos) (.op .list is) := w_callT k call_list_of rfl rfl hg hm (by decide +kernel) ha (he := he) (hpl := hpl)
theorem w_tuple (k : CxOk X g) (hm : X.mg "tuple" = none) (ha : Pa X g fl Φ W (a :: es) is []) (hg : Gl X "tuple" := by rfl) (he : starEach (a :: es) X.env = (false, eval a X.env) :: starEach es X.env := by rfl) (hpl : (backTo pos (starEach es X.env)).any (·.1) = false := by rfl) :
    Pe X g fl Φ W (.Call (.Name "tuple" p) (a :: es) [] pos) (.op .tuple is) := w_callT k call_tuple_of rfl rfl hg hm (by decide +kernel) ha (he := he) (hpl := hpl)
/-- isinstance(x, a built-in type) -/
theorem w_isT {n : String} {x : Str} {q : Pos} (k : CxOk X g) (hm : X.mg "isinstance" = none) (hm2 : X.mg x = none) (hv2 : bootBuiltins x = some (.type n)) (ha : Pe X g fl Φ W a ea) (hg : Gl X "isinstance" := by rfl) (hg2 : Gl X x := by rfl) (hn : x ≠ "__name__" := by decide) (hdb : (x == ("__debug__" : Str)) = false := by decide)
    (he : starEach [a, .Name x q] X.env = (false, eval a X.env) :: starEach [.Name x q] X.env := by rfl) (hpl : (backTo pos (starEach [.Name x q] X.env)).any (·.1) = false := by rfl) (he2 : starEach [.Name x q] X.env = (false, eval (.Name x q) X.env) :: starEach [] X.env := by rfl) :
    Pe X g fl Φ W (.Call (.Name "isinstance" p) [a, .Name x q] [] pos) (.op (.isT n) [ea]) := by
  have h := pe_callB (p := p) (pos := pos) (x := "isinstance") call_isi hg hm (by decide +kernel) (pa_cons ha (pa_cons (pe_bltn (v := .ty n) hg2 hm2 hv2 rfl (hn := hn) (hd := hdb)) pa_nil he2) he) (by decide) (by decide) he hpl
  refine ⟨fun pins s σ H Q I q => h.run pins s σ H Q I ?_⟩
  rw [k.hK]; exact q
/-! methods -/
theorem w_join {apos : Pos} (k : CxOk X g) (ha : Pe X g fl Φ W a ea) (hb : Pe X g fl Φ W b eb) (hs : starEach [b] X.env = [(false, eval b X.env)] := by rfl) (hbase : attributeBase a "join" X.env (eval a X.env) = eval a X.env := by rfl) (hline : (apos.endLine == pos.line) = true := by rfl) :
    Pe X g fl Φ W (.Call (.Attribute a "join" apos) [b] [] pos) (.bm .join ea [eb]) := by
  have h := pe_join ha hb hs hbase hline
  refine ⟨fun pins s σ H Q I q => h.run pins s σ H Q I ?_⟩
  rw [k.hK]; exact q
section
variable {apos : Pos} {i : Nat} {name : Str}
theorem w_mut {mm : Mm} {id : String} (k : CxOk X g) (slot : PySem.Slot "list" name id) (hty : typeOf (.builtin id) = pure (.type "method_descriptor")) (hm : MtR X id (relM mm)) (ho : Pe X g fl Φ W a (.var i)) (ha : Pa X g fl Φ W (b :: es) is [])
    (hbase : attributeBase a name X.env (eval a X.env) = eval a X.env := by rfl)
    (hfew : ((backTo pos (starEach (b :: es) X.env)).all (fun x => !x.1) && (backToKw pos (keywordEach [] X.env)).all (fun x => x.1.isSome)
      && decide ((b :: es).length + ([] : List Keyword).length + (if ([] : List Keyword).isEmpty then 0 else 1) < 30)) = true := by rfl)
    (hline : (apos.endLine == pos.line) = true := by rfl) (hs : starEach (b :: es) X.env = (false, eval b X.env) :: starEach es X.env := by rfl) (hplain : (backTo pos (starEach es X.env)).any (·.1) = false := by rfl) :
    Pe X g fl Φ W (.Call (.Attribute a name apos) (b :: es) [] pos) (.mut mm i is) := by
  have h := pe_bm PySem.F.plainAttrs_list slot hty hm ho ha hbase hfew hline hs hplain
  refine ⟨fun pins s σ H Q I q => h.run pins s σ H Q I ?_⟩
  rw [k.hK]; exact q
theorem w_mut0 {mm : Mm} {id : String} (k : CxOk X g) (slot : PySem.Slot "list" name id) (hty : typeOf (.builtin id) = pure (.type "method_descriptor")) (hm : MtR X id (relM mm)) (ho : Pe X g fl Φ W a (.var i))
    (hbase : attributeBase a name X.env (eval a X.env) = eval a X.env := by rfl) (hline : (apos.endLine == pos.line) = true := by rfl) :
    Pe X g fl Φ W (.Call (.Attribute a name apos) [] [] pos) (.mut mm i []) := by
  have h := pe_bm0 PySem.F.plainAttrs_list slot hty hm ho hbase hline
  refine ⟨fun pins s σ H Q I q => h.run pins s σ H Q I ?_⟩
  rw [k.hK]; exact q
end
/-! calls of defs -/
theorem w_call {kk n : Nat} {f : Addr} {fd : FuncData} {ps : List Str} {fn : Fn} {x : Str} (F : FnOk X.prog X.w X.K X.mg X.base (L2.CX X.prog X.w) kk f fd ps (spF g fl fn)) (hr : Room kk X.A) (hm : X.mg x = some (.ref f)) (hk : PySem.W.keepIn X.K (.ref f) = true) (hb : Binds X.K fd ps []) (hΦ : Φ n = some fn) (tk : Takes X W)
    (ha : Pa X g fl Φ W (a :: es) is []) (hg : Gl X x := by rfl) (hdb : (x == ("__debug__" : Str)) = false := by decide) (he : starEach (a :: es) X.env = (false, eval a X.env) :: starEach es X.env := by rfl) (hpl : (backTo pos (starEach es X.env)).any (·.1) = false := by rfl) :
    Pe X g fl Φ W (.Call (.Name x p) (a :: es) [] pos) (.call n is) := by
  have e : spT g fl Φ n = spF g fl fn := by unfold spT; rw [hΦ]
  show PE X _ (tCallS (spT g fl Φ n) (WE W) (TL g fl Φ is [] W))
  rw [e]
  exact pe_callS F hr hg hm hk hb (fun σ => passAt tk σ) ha hdb he hpl
theorem w_call0 {kk n : Nat} {f : Addr} {fd : FuncData} {ps : List Str} {fn : Fn} {x : Str} (F : FnOk X.prog X.w X.K X.mg X.base (L2.CX X.prog X.w) kk f fd ps (spF g fl fn)) (hr : Room kk X.A) (hm : X.mg x = some (.ref f)) (hk : PySem.W.keepIn X.K (.ref f) = true) (hb : Binds X.K fd ps []) (hΦ : Φ n = some fn) (tk : Takes X W)
    (hg : Gl X x := by rfl) (hdb : (x == ("__debug__" : Str)) = false := by decide) : Pe X g fl Φ W (.Call (.Name x p) [] [] pos) (.call n []) := by
  have e : spT g fl Φ n = spF g fl fn := by unfold spT; rw [hΦ]
  show PE X _ (tCallS (spT g fl Φ n) (WE W) (TL g fl Φ [] [] W))
  rw [e]
  refine ⟨fun pins s σ H Q I h => ?_⟩
  refine wpAny_Call_Name_kw (ld_glob I hg hm ?_ hdb)
  exact PySem.W.callWith_K0 I.kIn hk (run_fnS (us := []) F hr hb (passAt tk σ) I .nil h)
/-- f(k = v): one keyword, one parameter -/
theorem w_callK1 {kk n : Nat} {f : Addr} {fd : FuncData} {fn : Fn} {x : Str} {kp : Pos} {nm : Str} (F : FnOk X.prog X.w X.K X.mg X.base (L2.CX X.prog X.w) kk f fd [nm] (spF g fl fn)) (hr : Room kk X.A) (hm : X.mg x = some (.ref f)) (hk : PySem.W.keepIn X.K (.ref f) = true)
    (hb : ∀ (s : Shared) (w : Value), X.K.In s.heap → BindsTo s fd ⟨[], [(nm, w)]⟩ [(nm, w)]) (hΦ : Φ n = some fn) (tk : Takes X W) (ha : Pe X g fl Φ W a ea)
    (hall : (backToKw pos (keywordEach [⟨some nm, a, kp⟩] X.env)).all (·.1.isSome) = true := by rfl) (hks : (backToKw pos (keywordEach [⟨some nm, a, kp⟩] X.env)).filterMap (·.1) = [nm] := by rfl)
    (hpl : ((backTo pos (starEach [] X.env)).any (·.1) || (backToKw pos (keywordEach [⟨some nm, a, kp⟩] X.env)).any (·.1.isNone)) = false := by rfl)
    (hg : Gl X x := by rfl) (hdb : (x == ("__debug__" : Str)) = false := by decide) : Pe X g fl Φ W (.Call (.Name x p) [] [⟨some nm, a, kp⟩] pos) (.call n [ea]) := by
  have e : spT g fl Φ n = spF g fl fn := by unfold spT; rw [hΦ]
  show PE X _ (tCallS (spT g fl Φ n) (WE W) (TL g fl Φ [ea] [] W))
  rw [e]
  have hkk : PK X [⟨some nm, a, kp⟩] (TL g fl Φ [ea] [] W) := pk_cons ha pk_nil
  refine ⟨fun pins s σ H Q I h => ?_⟩
  refine wpAny_Call_Name_kw (ld_glob I hg hm ?_ hdb)
  refine PySem.W.callWith_KW0 (h₀ := X.base) I.ok.mod.kin hk hall ?_ hpl
  refine thn (hkk.run pos pins s σ H _ I h) fun ws s2 ⟨zs, H2, I2, rz, q2⟩ => ⟨I2.kIn, ?_⟩
  rw [hks]
  have hl : ws.length = 1 := by rw [← rz.length]; exact F.len _ _ _ _ q2
  obtain ⟨w, rfl⟩ : ∃ w, ws = [w] := by
    match ws, hl with
    | [w], _ => exact ⟨w, rfl⟩
  refine wpAny_call (codeAny_mono (F.run X.A X.stack s2 H2 ⟨[], [(nm, w)]⟩ [w] zs Q _ hr I2.env0 (hb s2 w I2.kIn) rz q2) fun r s' hq => ?_)
  cases r with
  | error e => exact passAt tk σ pins H2 s2 e s' I2 hq
  | ok fl =>
    cases fl with
    | ret u => exact I2.after hq
    | next => exact False.elim hq
    | brk => exact False.elim hq
    | cont => exact False.elim hq
/-- a def of the text that keeps its promise -/
structure Dok (P : Program) (w : World) (g : Gm) (mg : Str → Option Value) (base : Heap) (fl : Str → Str) (x : Str) (kk : Nat) (ps : List Str) (fn : Fn) : Prop where
  ex : ∃ f fd, FnOk P w g.K mg base (L2.CX P w) kk f fd ps (spF g fl fn) ∧ mg x = some (.ref f) ∧ PySem.W.keepIn g.K (.ref f) = true ∧ Binds g.K fd ps [] ∧
    ∀ nm, ps = [nm] → ∀ (s : Shared) (w : Value), g.K.In s.heap → BindsTo s fd ⟨[], [(nm, w)]⟩ [(nm, w)]
theorem w_dcall {kk j n : Nat} {ps : List Str} {fn : Fn} {x : Str} (k : CxOk X g) (D : Dok X.prog X.w g X.mg X.base fl x kk ps fn) (hj : kk ≤ j) (hr : Room j X.A) (hΦ : Φ n = some fn) (tk : Takes X W)
    (ha : Pa X g fl Φ W (a :: es) is []) (hg : Gl X x := by rfl) (hdb : (x == ("__debug__" : Str)) = false := by decide) (he : starEach (a :: es) X.env = (false, eval a X.env) :: starEach es X.env := by rfl) (hpl : (backTo pos (starEach es X.env)).any (·.1) = false := by rfl) :
    Pe X g fl Φ W (.Call (.Name x p) (a :: es) [] pos) (.call n is) := by
  obtain ⟨f, fd, F, hm, hk, hb, _⟩ := D.ex
  exact w_call (by rw [k.hK]; exact F) (hr.mono hj) hm (by rw [k.hK]; exact hk) (by rw [k.hK]; exact hb) hΦ tk ha hg hdb he hpl
theorem w_dcall0 {kk j n : Nat} {ps : List Str} {fn : Fn} {x : Str} (k : CxOk X g) (D : Dok X.prog X.w g X.mg X.base fl x kk ps fn) (hj : kk ≤ j) (hr : Room j X.A) (hΦ : Φ n = some fn) (tk : Takes X W)
    (hg : Gl X x := by rfl) (hdb : (x == ("__debug__" : Str)) = false := by decide) : Pe X g fl Φ W (.Call (.Name x p) [] [] pos) (.call n []) := by
  obtain ⟨f, fd, F, hm, hk, hb, _⟩ := D.ex
  exact w_call0 (by rw [k.hK]; exact F) (hr.mono hj) hm (by rw [k.hK]; exact hk) (by rw [k.hK]; exact hb) hΦ tk hg hdb
theorem w_dcallK1 {kk j n : Nat} {fn : Fn} {x nm : Str} {kp : Pos} (k : CxOk X g) (D : Dok X.prog X.w g X.mg X.base fl x kk [nm] fn) (hj : kk ≤ j) (hr : Room j X.A) (hΦ : Φ n = some fn) (tk : Takes X W) (ha : Pe X g fl Φ W a ea)
    (hall : (backToKw pos (keywordEach [⟨some nm, a, kp⟩] X.env)).all (·.1.isSome) = true := by rfl) (hks : (backToKw pos (keywordEach [⟨some nm, a, kp⟩] X.env)).filterMap (·.1) = [nm] := by rfl)
    (hpl : ((backTo pos (starEach [] X.env)).any (·.1) || (backToKw pos (keywordEach [⟨some nm, a, kp⟩] X.env)).any (·.1.isNone)) = false := by rfl)
    (hg : Gl X x := by rfl) (hdb : (x == ("__debug__" : Str)) = false := by decide) : Pe X g fl Φ W (.Call (.Name x p) [] [⟨some nm, a, kp⟩] pos) (.call n [ea]) := by
  obtain ⟨f, fd, F, hm, hk, _, hb⟩ := D.ex
  exact w_callK1 (by rw [k.hK]; exact F) (hr.mono hj) hm (by rw [k.hK]; exact hk) (fun s w q => hb nm rfl s w (by rw [← k.hK]; exact q)) hΦ tk ha hall hks hpl hg hdb
theorem cx_ok {P : Program} {w : World} {mg : Str → Option Value} {base : Heap} {N : List Str} {qual : Str} {scope : Scope} {f : Addr} {cd : Value} {A : Around} {outer : List Env} {s : Shared} {H : Hp} {E : XK} {CX : CXT} {k : Nat} (hr : Room k (A.deeper (envOfC qual scope s.heap.objs.size f cd))) :
    CxOk (cxOf CX P w g.K mg base N qual scope f cd A outer s H E) g := ⟨rfl, by have := hr.un; show (A.deeper _).units + 200 < cLine; omega, rfl⟩
def tb (l : List Fn) : Nat → Option Fn := fun i => l[i]?
/-! what is walked -/
theorem pi_seq {tg l : Expr} {tl : TE} (hl : PE X l tl) : PI X tg l (iSeq X.K tl) := by
  refine ⟨fun pins s σ H R I h => ?_⟩
  refine thn (hl.run pins s σ H _ I h) fun v s1 ⟨x, H1, I1, r1, q1⟩ => ?_
  obtain ⟨a, e, q⟩ := q1
  subst e
  cases r1
  rcases q with ⟨⟨xs, hq⟩, q⟩ | ⟨⟨xs, hq⟩, q⟩
  · obtain ⟨its, rv, p, hz⟩ := I1.list hq
    refine wpAny_pyIter_list p.isList ?_
    refine ⟨s1.heap.objs.size, [s1.heap.objs.size], _, _, H1, rfl, I1.kept (t' := s1.toks) fun b o e => Heap.get?_push_of_some _ e, turn_list a _, ⟨_, Heap.get?_push_size _ rfl, rfl, rfl⟩, fun b hb => ?_, q⟩
    have e : b = s1.heap.objs.size := by simpa using hb
    subst e
    exact I1.fpOk (Nat.le_refl _) (I1.hok.fresh (Nat.le_refl _))
  · obtain ⟨its, rv, p, hz⟩ := I1.tuple hq
    refine wpAny_pyIter_tuple (show s1.heap.IsTuple a its.toArray from p) ?_
    refine ⟨s1.heap.objs.size, [s1.heap.objs.size], _, _, H1, rfl, I1.kept (t' := s1.toks) fun b o e => Heap.get?_push_of_some _ e, turn_tuple a _, ⟨_, Heap.get?_push_size _ rfl, rfl, rfl⟩, fun b hb => ?_, q⟩
    have e : b = s1.heap.objs.size := by simpa using hb
    subst e
    exact I1.fpOk (Nat.le_refl _) (I1.hok.fresh (Nat.le_refl _))
abbrev Pi (X : Cx) (g : Gm) (fl : Str → Str) (Φ : Nat → Option Fn) (W : WX) (tg x : Expr) (k : Itk) (ex : E) : Prop := PI X tg x (wiOf g.K k (T g fl Φ ex W))
theorem i_seq {tg : Expr} (k : CxOk X g) (h : Pe X g fl Φ W a ea) : Pi X g fl Φ W tg a .seq ea := by
  show PI X tg a (iSeq g.K _)
  rw [← k.hK]; exact pi_seq h
theorem i_rng {tg : Expr} (hm : X.mg "range" = none) (h : Pe X g fl Φ W a ea) (hg : Gl X "range" := by rfl) (hs : starEach [a] X.env = [(false, eval a X.env)] := by rfl) : Pi X g fl Φ W tg (.Call (.Name "range" p) [a] [] pos) .rng ea :=
  pi_range1 hg hm (pa_cons h pa_nil hs) hs
theorem i_str {tg : Expr} (h : Pe X g fl Φ W a ea) : Pi X g fl Φ W tg a .str ea := pi_str h
/-! targets -/
theorem g_nm (i : Nat) {x : Str} (hN : X.N.Nodup) (hi : X.N[i]? = some x := by rfl) (hx : Loc X.env.scope x := by first | exact Or.inl rfl | exact Or.inr rfl) (hf : X.fn x = true ∨ X.env.scope.names.lookup x = some .local := by first | exact .inl rfl | exact .inr rfl | assumption) : PG X (.Name x pos) (TGt g.K (.nm i)) := pg_name hN hi hx hf
theorem g_tp {is : List Nat} {kk : Nat} (k : CxOk X g) (h : PGs X es (gNames is)) (hn : (assignEach es X.env).length = is.length := by rfl) (hst : (assignEach es X.env).findIdx? (·.1) = none := by rfl) : PG X (.Tuple es kk pos) (TGt g.K (.tp is)) := by
  show PG X _ (gTup g.K _ _)
  rw [← k.hK]; exact pg_tup k.hc h hn hst
/-! comprehensions -/
abbrev Ptc (X : Cx) (g : Gm) (fl : Str → Str) (Φ : Nat → Option Fn) (W : WX) (xs : List Expr) (es : List E) : Prop := PTs X xs (TCn g fl Φ es W)
theorem c_nil : Ptc X g fl Φ W [] [] := pts_nil
theorem c_one (h : Pt X g fl Φ W c ec) : Ptc X g fl Φ W [c] [ec] := pts_one h
theorem w_lc {kk : Itk} {elt tg iter : Expr} {ifs : List Expr} {scope : Scope} {own : List (Str × Nat)} {t : Tgt} {cond : List E} (k : CxOk X g) (hN : X.N.Nodup) (ok : BlkOk X.N X.env.scope scope own) (hi : Pi X g fl Φ W tg iter kk ea)
    (hg : ∀ (s : Shared) (H : Hp) (C : Addr) (cl : List (Str × Addr)) (fp : List Addr), CxOk (X.blk s H scope (compEnvC scope cl C X.env) fp) g → PG (X.blk s H scope (compEnvC scope cl C X.env) fp) tg (TGt g.K t))
    (ht : ∀ (s : Shared) (H : Hp) (C : Addr) (cl : List (Str × Addr)) (fp : List Addr), CxOk (X.blk s H scope (compEnvC scope cl C X.env) fp) g → Ptc (X.blk s H scope (compEnvC scope cl C X.env) fp) g fl Φ W0 ifs cond)
    (he : ∀ (s : Shared) (H : Hp) (C : Addr) (cl : List (Str × Addr)) (fp : List Addr), CxOk (X.blk s H scope (compEnvC scope cl C X.env) fp) g → Pe (X.blk s H scope (compEnvC scope cl C X.env) fp) g fl Φ W0 elt ee)
    (hs : ∀ x, foldedSetIterable iter X.env x = pure x := by intro _; rfl) :
    Pe X g fl Φ W (.ListComp elt [⟨tg, iter, ifs, 0⟩] scope pos) (.lc kk ea t cond ee (own.map (·.2))) := by
  have kb : ∀ (s : Shared) (H : Hp) (C : Addr) (cl : List (Str × Addr)) (fp : List Addr), CxOk (X.blk s H scope (compEnvC scope cl C X.env) fp) g := fun s H C cl fp => ⟨k.hK, k.hu, k.hc⟩
  have h := pe_lc (pos := pos) k.hc hN hi ok (fun s H C cl fp => hg s H C cl fp (kb s H C cl fp)) (fun s H C cl fp => ht s H C cl fp (kb s H C cl fp)) (fun s H C cl fp => he s H C cl fp (kb s H C cl fp)) hs
  refine ⟨fun pins s σ H Q I q => h.run pins s σ H Q I ?_⟩
  cases kk <;> exact q
/-! statements -/
abbrev Ps (X : Cx) (g : Gm) (fl : Str → Str) (Φ : Nat → Option Fn) (W : WX) (st : Stmt) (s : S) : Prop := PS X st (TS1 g fl Φ s W)
abbrev Pss (X : Cx) (g : Gm) (fl : Str → Str) (Φ : Nat → Option Fn) (W : WX) (st : List Stmt) (s : List S) : Prop := PSs X st (TSs g fl Φ s W)
variable {st : Stmt} {sts sts2 : List Stmt} {s0 : S} {ss ss2 : List S}
theorem s_nil : Pss X g fl Φ W [] [] := pss_nil
theorem s_cons (h1 : Ps X g fl Φ W st s0) (h2 : Pss X g fl Φ W sts ss) : Pss X g fl Φ W (st :: sts) (s0 :: ss) := pss_cons h1 h2
theorem s_set (i : Nat) {x : Str} {pos' : Pos} (hN : X.N.Nodup) (he : Pe X g fl Φ W e ee) (hi : X.N[i]? = some x := by rfl) (hx : Loc X.env.scope x := by first | exact Or.inl rfl | exact Or.inr rfl) (hs : swapsWith e (some (.Name x pos')) pos.line X.env = pure false := by rfl) (hf : X.fn x = true ∨ X.env.scope.names.lookup x = some .local := by first | exact .inl rfl | exact .inr rfl | assumption) :
    Ps X g fl Φ W (.Assign [.Name x pos'] e pos) (.asg (.nm i) ee) := ps_set hN hi hx he hs hf
theorem s_setLc (i : Nat) {y : Str} {py : Pos} {kk : Itk} {elt tg iter : Expr} {ifs : List Expr} {scope : Scope} {own : List (Str × Nat)} {t : Tgt} {cond : List E} {spos : Pos} (k : CxOk X g) (hN : X.N.Nodup) (ok : BlkOk X.N X.env.scope scope own) (hi : Pi X g fl Φ W tg iter kk ea)
    (hg : ∀ (s : Shared) (H : Hp) (C : Addr) (cl : List (Str × Addr)) (fp : List Addr), CxOk (X.blk s H scope (compEnvC scope cl C X.env) fp) g → PG (X.blk s H scope (compEnvC scope cl C X.env) fp) tg (TGt g.K t))
    (ht : ∀ (s : Shared) (H : Hp) (C : Addr) (cl : List (Str × Addr)) (fp : List Addr), CxOk (X.blk s H scope (compEnvC scope cl C X.env) fp) g → Ptc (X.blk s H scope (compEnvC scope cl C X.env) fp) g fl Φ W0 ifs cond)
    (he : ∀ (s : Shared) (H : Hp) (C : Addr) (cl : List (Str × Addr)) (fp : List Addr), CxOk (X.blk s H scope (compEnvC scope cl C X.env) fp) g → Pe (X.blk s H scope (compEnvC scope cl C X.env) fp) g fl Φ W0 elt ee)
    (hsw : swapsWith (.ListComp elt [⟨tg, iter, ifs, 0⟩] scope pos) (some (.Name y py)) spos.line X.env = pure true) (hy : X.N[i]? = some y := by rfl) (hyl : X.env.scope.names.lookup y = some .local := by rfl) (hs : ∀ x, foldedSetIterable iter X.env x = pure x := by intro _; rfl) :
    Ps X g fl Φ W (.Assign [.Name y py] (.ListComp elt [⟨tg, iter, ifs, 0⟩] scope pos) spos) (.asg (.nm i) (.lc kk ea t cond ee (own.map (·.2)))) := by
  have kb : ∀ (s : Shared) (H : Hp) (C : Addr) (cl : List (Str × Addr)) (fp : List Addr), CxOk (X.blk s H scope (compEnvC scope cl C X.env) fp) g := fun s H C cl fp => ⟨k.hK, k.hu, k.hc⟩
  have h := ps_setLc k.hc hN hy hyl hsw hi ok (fun s H C cl fp => hg s H C cl fp (kb s H C cl fp)) (fun s H C cl fp => ht s H C cl fp (kb s H C cl fp)) (fun s H C cl fp => he s H C cl fp (kb s H C cl fp)) hs
  refine ⟨fun pins s σ H Q I q => h.run pins s σ H Q I ?_⟩
  cases kk <;> exact q
theorem s_asg {t : Tgt} {tg : Expr} (he : Pe X g fl Φ W e ee) (hg : PG X tg (TGt g.K t)) (hs : swapsWithSole [tg] e pos.line X.env = pure false := by rfl) (hw : swappedStores [tg] e X.env = pure none := by rfl)
    (h1 : (assignEach [tg] X.env).map (·.2) = [assign tg X.env] := by rfl) : Ps X g fl Φ W (.Assign [tg] e pos) (.asg t ee) := ps_asg he hg hs hw h1
theorem s_setIx (i : Nat) {ix : Expr} {ei : E} {p2 p3 : Pos} {x : Str} (ho : Pe X g fl Φ W (.Name x p3) (.var i)) (hix : Pe X g fl Φ W ix ei) (he : Pe X g fl Φ W e ee) (hs : swapsWithSole [.Subscript (.Name x p3) ix p2] e pos.line X.env = pure false := by rfl) (hw : swappedStores [.Subscript (.Name x p3) ix p2] e X.env = pure none := by rfl)
    (h1 : (assignEach [.Subscript (.Name x p3) ix p2] X.env).map (·.2) = [assign (.Subscript (.Name x p3) ix p2) X.env] := by rfl) (ha : ∀ v, assign (.Subscript (.Name x p3) ix p2) X.env v = (do
      let ov ← holding [v] (eval (.Name x p3) X.env)
      let iv ← holding [v, ov] (eval ix X.env)
      standAt p2
      holding [v, ov, iv] (setItem ov iv v)
      release [v, ov, iv] []) := by intro _; rfl) : Ps X g fl Φ W (.Assign [.Subscript (.Name x p3) ix p2] e pos) (.setIx i ei ee) := ps_asg he (pg_sub ho hix set_list ha) hs hw h1
theorem s_expr (he : Pe X g fl Φ W e ee) (hs : swapsWith e none pos.line X.env = pure false := by rfl) : Ps X g fl Φ W (.Expr e pos) (.expr ee) := ps_expr he hs
theorem s_if (hc : Pt X g fl Φ W c ec) (ha : Pss X g fl Φ W sts ss) (hb : Pss X g fl Φ W sts2 ss2) : Ps X g fl Φ W (.If c sts sts2 pos) (.ite ec ss ss2) := ps_if hc ha hb
theorem s_for {kk : Itk} {tg iter : Expr} {t : Tgt} (k : CxOk X g) (hp : PassesOwn (model X.prog X.w) X.A X.env X.xe) (hi : Pi X g fl Φ W tg iter kk ea) (hg : PG X tg (TGt g.K t)) (hb : Pss X g fl Φ W sts ss) (hs : ∀ x, foldedSetIterable iter X.env x = pure x := by intro _; rfl) :
    Ps X g fl Φ W (.For tg iter sts [] pos) (.for_ kk ea t ss) := ps_for hp k.hc hi hg hb hs
theorem s_ret (he : Pe X g fl Φ W e ee) : Ps X g fl Φ W (.Return (some e) pos) (.ret ee) := ps_ret he
theorem s_retN : Ps X g fl Φ W (.Return none pos) .retN := ps_retN
theorem s_brk : Ps X g fl Φ W (.Break pos) .brk := ps_break
theorem s_cnt : Ps X g fl Φ W (.Continue pos) .cnt := ps_continue
end
end VI

set_option Elab.async false
set_option linter.all false
set_option maxRecDepth 100000
namespace VI
open PySem PySem.Spec PyProof.Rows L2

/-! ### a[i] op= e for a list -/
theorem get_list {X : Cx} : PGet X (rIxL X.K) := by
  intro pins s σ H o i ov iv Q I rx ry h
  obtain ⟨p, xs, i, z, rfl, rfl, hq, he, q⟩ := h
  cases rx
  obtain ⟨t, rfl⟩ := ry
  obtain ⟨its, r, pl, hz⟩ := I.list hq
  obtain ⟨j, h1, h2, h3, h4, h5⟩ := atI_get he
  obtain ⟨w, ew, rw'⟩ := r.get h2
  have hl := r.length
  have hn := line63
  have fin : EP X pins σ Q w s := ⟨z, H, I, rw', q⟩
  by_cases h0 : 0 ≤ i
  · have hj : i.toNat = j := by
      rw [PySem.seqIndex_of h0 h5] at h1
      exact Option.some.inj h1
    exact wpAny_getItem_list pl.isList h0 (by omega) (by rw [hj]; simpa using ew) fin
  · have hj : (i + (its.toArray.size : Int)).toNat = j := by
      rw [PySem.seqIndex_neg (by omega) h4] at h1
      rw [List.size_toArray, ← hl]
      exact Option.some.inj h1
    exact wpAny_getItem_list_neg pl.isList (by omega) (by rw [List.size_toArray] <;> omega) (by omega) (by rw [hj]; simpa using ew) fin

/-! ### lists of whole numbers -/
theorem pys_ints : ∀ ns : List Int, D.pys (ns.map D.int) = some (ns.map PyData.int)
  | [] => rfl
  | n :: ns => by
    show (match D.py (.int n), D.pys (ns.map D.int) with | some x, some xs => some (x :: xs) | _, _ => none) = _
    rw [pys_ints ns]; rfl
theorem depthAll_ints : ∀ ns : List Int, PyData.depthAll (ns.map PyData.int) = 0
  | [] => rfl
  | n :: ns => by
    show max (PyData.depth (.int n)) (PyData.depthAll (ns.map PyData.int)) = 0
    rw [depthAll_ints ns]; rfl
theorem eq_ints (ns : List Int) : eqD (.lst (ns.map D.int)) (.lst []) = some (ns.isEmpty) := by
  have h : D.py (.lst (ns.map D.int)) = some (.list (ns.map PyData.int)) := by
    show (D.pys (ns.map D.int)).map PyData.list = _
    rw [pys_ints]; rfl
  have d : (PyData.list (ns.map PyData.int)).depth ≤ 60 := by
    show PyData.depthAll (ns.map PyData.int) + 1 ≤ 60
    rw [depthAll_ints]; omega
  unfold eqD
  rw [h]
  show (if (PyData.list (ns.map PyData.int)).depth ≤ 60 ∧ (PyData.list []).depth ≤ 60 then some (PyData.eqv (.list (ns.map PyData.int)) (.list [])) else none) = _
  rw [if_pos ⟨d, by decide⟩]
  cases ns <;> rfl
theorem reps_ints {g : Gm} {F : Hp} : ∀ ns : List Int, Reps g F (ns.map D.int) (ns.map V.int)
  | [] => rfl
  | n :: ns => ⟨_, _, rfl, rfl, reps_ints ns⟩
theorem ints_of {g : Gm} {F : Hp} : ∀ {ns : List Int} {vs : List V}, Reps g F (ns.map D.int) vs → vs = ns.map V.int
  | [], _, h => h
  | n :: ns, _, ⟨v, ws, e, r, h⟩ => by rw [e, show v = V.int n from r, ints_of h]; rfl

/-! ### drawing -/
def dropZ : List Int → List Int
  | [] => []
  | x :: xs => if x = 0 then dropZ xs else x :: xs
/-- what is drawn where no number is left -/
def mixI (cell c n : Int) : Int := (((cell % 2147483647 * 48271 + c * 69621 + 7) ^ 5 % 2147483647 * 16807 + c * 40692 + 13) ^ 5 % 2147483629) % n
def drawI (ns sc : List Int) (c n : Int) : Option (Int × DS) :=
  match dropZ ns with
  | x :: xs => some (x % n, .dr (x / n :: xs) sc (c + 1))
  | [] => (sc[((c + 1) % sc.length).toNat]?).map fun cell => (mixI cell (c + 1) n, .dr [] sc (c + 1))
def drawS : List D → Option DS → Option (FRes × Option DS)
  | [.int n], some (.dr ns sc c) => if 0 < n ∧ n.natAbs.log2 < 9000 ∧ 0 ≤ c ∧ c < 1000000000 then (drawI ns sc c n).map fun r => (.ret .fr (.int r.1), some r.2) else none
  | _, _ => none
def drawFn : Fn := ⟨[.st, .vl], drawS⟩

section
variable (g : Gm) (fl : Str → Str) (Φ : Nat → Option Fn) (W : WX)
abbrev eNs : E := .op .ix [.var 0, .cst (.int 0)]
abbrev eN0 : E := .op .ix [eNs, .cst (.int 0)]
abbrev eC : E := .op .ix [.var 0, .cst (.int 2)]
abbrev eSc : E := .op .ix [.var 0, .cst (.int 1)]
/-- the reading of the def that draws -/
def drawTS : TS :=
  tSeq (tAugS (tVar 0) (tC (.int 2)) (tC (.int 1)) (rIxL g.K) (ipI fun i j => i + j) rSetL)
  (tSeq (tWhile (TT' g fl Φ (.andE (.op .ne [eNs, .op .mkl []]) (.op .eq [eN0, .cst (.int 0)])) W)
      (tSeq (tAsg (T g fl Φ (.slcL eNs (.cst (.int 1))) W) (gSub (tVar 0) (T g fl Φ (.cst (.int 0)) W) rSetL)) tNext))
  (tSeq (tIfS (TT' g fl Φ (.op .ne [eNs, .op .mkl []]) W)
      (tSeq (tAsg (T g fl Φ (.op .mod [.op .int [eN0], .var 1]) W) (gName 2))
      (tSeq (tAsg (T g fl Φ (.op .fdv [eN0, .var 1]) W) (gSub (T g fl Φ eNs W) (T g fl Φ (.cst (.int 0)) W) rSetL))
      (tSeq (tRet (T g fl Φ (.var 2) W)) tNext))) tNext)
  (tSeq (tAsg (T g fl Φ (.op .mod [.op .int [.op .ix [eSc, .op .mod [.op .int [eC], .op .len [eSc]]]], .cst (.int 2147483647)]) W) (gName 3))
  (tSeq (tAsg (T g fl Φ (.op .mod [.op .int [.op .pow [.op .add [.op .add [.op .mul [.var 3, .cst (.int 48271)], .op .mul [eC, .cst (.int 69621)]], .cst (.int 7)], .cst (.int 5)]], .cst (.int 2147483647)]) W) (gName 4))
  (tSeq (tRet (T g fl Φ (.op .mod [.op .mod [.op .int [.op .pow [.op .add [.op .add [.op .mul [.var 4, .cst (.int 16807)], .op .mul [eC, .cst (.int 40692)]], .cst (.int 13)], .cst (.int 5)]], .cst (.int 2147483629)], .var 1]) W)) tNext)))))
end

section
variable {g : Gm} {fl : Str → Str} {Φ : Nat → Option Fn} {W : WX} {σ : L2.St} {F H H0 : Hp} {s a b : Addr} {S : Addr → Prop} {ns sc : List Int} {c n : Int} {Q : VK}
theorem at0 {α : Type} (x : α) (xs : List α) : atI (x :: xs) 0 = some x := atI_nat (j := 0) rfl
theorem at1 {α : Type} (x y : α) (xs : List α) : atI (x :: y :: xs) 1 = some y := atI_nat (j := 1) rfl
theorem at2 {α : Type} (x y z : α) (xs : List α) : atI (x :: y :: z :: xs) 2 = some z := atI_nat (j := 2) rfl
structure DrI (F H0 : Hp) (S : Addr → Prop) (s a b : Addr) (ns sc : List Int) (c : Int) (H : Hp) : Prop where
  hs : H s = some (.lst [.ref a, .ref b, .int c])
  ha : H a = some (.lst (ns.map V.int))
  hb : F b = some (.lst (sc.map V.int))
  ne : a ≠ s
  fs : F s = none
  fa : F a = none
  sub : Sub F H
  h : ∀ p o, H0 p = some o → ¬ S p → H p = some o
  e : ∀ p, H0 p ≠ none → H p ≠ none
  sa : S a ∨ H0 a = none
  ss : S s
theorem DrI.bs (d : DrI F H0 S s a b ns sc c H) : H b = some (.lst (sc.map V.int)) := d.sub _ _ d.hb
theorem DrI.up {H' : Hp} (d : DrI F H0 S s a b ns sc c H) (u : Sub H H') : DrI F H0 S s a b ns sc c H' :=
  ⟨u _ _ d.hs, u _ _ d.ha, d.hb, d.ne, d.fs, d.fa, d.sub.trans u, fun q o' h1 h2 => u _ _ (d.h q o' h1 h2), fun q h1 => by
    cases z : H q with
    | none => exact absurd z (d.e q h1)
    | some o => rw [u _ _ z]; simp, d.sa, d.ss⟩
theorem DrI.new (d : DrI F H0 S s a b ns sc c H) {p : Addr} (hp : H p = none) (o : HO) : DrI F H0 S s a b ns sc c (upd H p o) := d.up (Sub.new o hp)
theorem DrI.no (d : DrI F H0 S s a b ns sc c H) {p : Addr} (hp : H p = none) : F p = none ∧ H0 p = none ∧ p ≠ s := by
  refine ⟨?_, ?_, ?_⟩
  · cases z : F p with
    | none => rfl
    | some o => rw [d.sub _ _ z] at hp; cases hp
  · cases z : H0 p with
    | none => rfl
    | some o => exact absurd hp (d.e p (by rw [z]; simp))
  · exact fun e => by subst e; rw [d.hs] at hp; cases hp
theorem DrI.put (d : DrI F H0 S s a b ns sc c H) {p : Addr} (hp : H p = none) (ns' : List Int) (c' : Int) : DrI F H0 S s p b ns' sc c' (upd (upd H p (.lst (ns'.map V.int))) s (.lst [.ref p, .ref b, .int c'])) := by
  obtain ⟨n1, n2, n3⟩ := d.no hp
  have d' := d.new hp (.lst (ns'.map V.int))
  refine ⟨upd_same, by rw [upd_ne n3]; exact upd_same, d.hb, n3, d.fs, n1, d'.sub.upd _ d.fs, fun q o h1 h2 => ?_, fun q h => ?_, .inr n2, d.ss⟩
  · rw [upd_ne (fun e => h2 (by rw [e]; exact d.ss))]; exact d'.h q o h1 h2
  · by_cases e : q = s
    · subst e; rw [upd_same]; simp
    · rw [upd_ne e]; exact d'.e q h
theorem DrI.cnt (d : DrI F H0 S s a b ns sc c H) (c' : Int) : DrI F H0 S s a b ns sc c' (upd H s (.lst [.ref a, .ref b, .int c'])) := by
  refine ⟨upd_same, by rw [upd_ne d.ne]; exact d.ha, d.hb, d.ne, d.fs, d.fa, d.sub.upd _ d.fs, fun q o h1 h2 => ?_, fun q h => ?_, d.sa, d.ss⟩
  · rw [upd_ne (fun e => h2 (by rw [e]; exact d.ss))]; exact d.h q o h1 h2
  · by_cases e : q = s
    · subst e; rw [upd_same]; simp
    · rw [upd_ne e]; exact d.e q h
theorem DrI.inn (d : DrI F H0 S s a b ns sc c H) (ns' : List Int) : DrI F H0 S s a b ns' sc c (upd H a (.lst (ns'.map V.int))) := by
  refine ⟨by rw [upd_ne (Ne.symm d.ne)]; exact d.hs, upd_same, d.hb, d.ne, d.fs, d.fa, d.sub.upd _ d.fa, fun q o h1 h2 => ?_, fun q h => ?_, d.sa, d.ss⟩
  · rcases d.sa with z | z
    · rw [upd_ne (fun e => h2 (by rw [e]; exact z))]; exact d.h q o h1 h2
    · rw [upd_ne (fun e => by rw [e, z] at h1; cases h1)]; exact d.h q o h1 h2
  · by_cases e : q = a
    · subst e; rw [upd_same]; simp
    · rw [upd_ne e]; exact d.e q h
theorem cut1 (x : Int) (xs : List Int) : cutV ((x :: xs).map V.int) (some 1) Option.none = xs.map V.int := by
  have e : HT.sIx ((x :: xs).map V.int).length 0 (some 1) = 1 := by
    rw [show (1 : Int) = ((1 : Nat) : Int) from rfl, HT.sIx_nat]
    simp
  unfold cutV
  rw [e, HT.sIx_none]
  simp only [List.length_map, List.map_cons, List.drop_succ_cons, List.drop_zero, List.length_cons]
  exact List.take_of_length_le (by simp)
/-! the readings of its expressions -/
structure Sg (σ : L2.St) (s : Addr) (n : Int) : Prop where
  h0 : σ[0]? = some (some (.ref s))
  h1 : σ[1]? = some (some (.int n))
variable (d : DrI F H0 S s a b ns sc c H) (z : Sg σ s n)
include d z
theorem x_ns (q : Q (.ref a) H) : T g fl Φ eNs W σ H Q :=
  ⟨.ref s, z.h0, .inl ⟨s, _, 0, _, rfl, rfl, SqL.of d.hs, at0 _ _, q⟩⟩
theorem x_sc (q : Q (.ref b) H) : T g fl Φ eSc W σ H Q :=
  ⟨.ref s, z.h0, .inl ⟨s, _, 1, _, rfl, rfl, SqL.of d.hs, at1 _ _ _, q⟩⟩
theorem x_c (q : Q (.int c) H) : T g fl Φ eC W σ H Q :=
  ⟨.ref s, z.h0, .inl ⟨s, _, 2, _, rfl, rfl, SqL.of d.hs, at2 _ _ _ _, q⟩⟩
end
section
variable {g : Gm} {fl : Str → Str} {Φ : Nat → Option Fn} {W : WX} {σ : L2.St} {F H H0 : Hp} {s a b : Addr} {S : Addr → Prop} {ns sc : List Int} {c n x : Int} {Q : VK}
theorem x_n0 (d : DrI F H0 S s a b (x :: ns) sc c H) (z : Sg σ s n) (q : Q (.int x) H) : T g fl Φ eN0 W σ H Q :=
  x_ns (g := g) (fl := fl) (Φ := Φ) (W := W) (Q := fun x1 H1 => (rIx g.K) x1 (.int 0) H1 Q) d z (.inl ⟨a, _, 0, _, rfl, rfl, SqL.of d.ha, at0 _ _, q⟩)
theorem x_ne (d : DrI F H0 S s a b ns sc c H) (z : Sg σ s n) {Q : Bool → Hp → Prop} (q : ∀ H', DrI F H0 S s a b ns sc c H' → Q (!ns.isEmpty) H') : TT' g fl Φ (.op .ne [eNs, .op .mkl []]) W σ H Q := by
  show tTest (tCB (rel g.K .ne) (TL g fl Φ [eNs, .op .mkl []] [] W)) σ H Q
  refine x_ns (g := g) (fl := fl) (Φ := Φ) (W := W) d z ?_
  refine ⟨Nat.zero_le _, fun p hp => ?_⟩
  have d' := d.new hp (.lst [])
  show rel g.K .ne [.ref a, .ref p] (upd H p (.lst [])) (fun x H' => ∃ k, x = .bl k ∧ Q k H')
  refine op_eq2 (g := g) (o := .ne) (F := upd H p (.lst [])) (Sub.refl _) (a := .lst (ns.map D.int)) (b := .lst []) (.inl ⟨a, _, rfl, d'.ha, reps_ints ns⟩) (.inl ⟨p, [], rfl, upd_same, rfl⟩) (r := (.fr, .bl (!ns.isEmpty))) (by simp only [opD, eq_ints]; rfl) ?_ (.inr rfl)
  intro v F' H' e m
  cases (show v = .bl _ from m)
  exact ⟨_, rfl, q _ (d'.up e.h)⟩
theorem x_eq0 (d : DrI F H0 S s a b (x :: ns) sc c H) (z : Sg σ s n) {Q : Bool → Hp → Prop} (q : ∀ H', DrI F H0 S s a b (x :: ns) sc c H' → Q (decide (x = 0)) H') : TT' g fl Φ (.op .eq [eN0, .cst (.int 0)]) W σ H Q := by
  show tTest (tCB (rel g.K .eq) (TL g fl Φ [eN0, .cst (.int 0)] [] W)) σ H Q
  refine x_n0 (g := g) (fl := fl) (Φ := Φ) (W := W) d z ?_
  have e : eqD (.int x) (.int 0) = some (decide (x = 0)) := by
    show (if (PyData.int x).depth ≤ 60 ∧ (PyData.int 0).depth ≤ 60 then some (PyData.eqv (.int x) (.int 0)) else none) = _
    rw [if_pos ⟨by show 0 ≤ 60; omega, by show 0 ≤ 60; omega⟩]
    show some (x == 0) = _
    by_cases h : x = 0 <;> simp [h]
  show rel g.K .eq [.int x, .int 0] H (fun x H' => ∃ k, x = .bl k ∧ Q k H')
  refine op_eq2 (g := g) (o := .eq) (F := H) (Sub.refl _) (a := .int x) (b := .int 0) (.inl rfl) (.inl rfl) (r := (.fr, .bl (decide (x = 0)))) (by simp only [opD, e]; rfl) ?_ (.inl rfl)
  intro v F' H' e m
  cases (show v = .bl _ from m)
  exact ⟨_, rfl, q _ (d.up e.h)⟩
theorem x_while (d : DrI F H0 S s a b ns sc c H) (z : Sg σ s n) {D : Ends} (q : ∀ H' a', DrI F H0 S s a' b (dropZ ns) sc c H' → D.nx σ H') :
    tWhile (TT' g fl Φ (.andE (.op .ne [eNs, .op .mkl []]) (.op .eq [eN0, .cst (.int 0)])) W)
      (tSeq (tAsg (T g fl Φ (.slcL eNs (.cst (.int 1))) W) (gSub (tVar 0) (T g fl Φ (.cst (.int 0)) W) rSetL)) tNext) D σ H := by
  refine ⟨fun m σ' H' => σ' = σ ∧ ∃ ns' a', m = ns'.length ∧ dropZ ns' = dropZ ns ∧ DrI F H0 S s a' b ns' sc c H', ⟨_, rfl, ns, a, rfl, rfl, d⟩, ?_⟩
  rintro m σ' H' ⟨rfl, ns', a', rfl, e, d⟩
  refine x_ne (g := g) (fl := fl) (Φ := Φ) (W := W) d z fun H1 d1 => ?_
  cases ns' with
  | nil =>
    show D.nx _ _
    exact q _ a' (by rw [← e]; exact d1)
  | cons x xs =>
    show TT' g fl Φ (.op .eq [eN0, .cst (.int 0)]) W _ H1 _
    refine x_eq0 (g := g) (fl := fl) (Φ := Φ) (W := W) d1 z fun H2 d2 => ?_
    by_cases hx : x = 0
    · rw [decide_eq_true hx, if_pos rfl]
      refine ⟨fun σ2 H2 => σ2 = σ' ∧ ∃ a', DrI F H0 S s a' b xs sc c H2, fun σ2 H2 ⟨h1, a2, h2⟩ => ⟨xs.length, by simp, h1, xs, a2, rfl, ?_, h2⟩, ?_⟩
      · rw [← e]; show _ = dropZ (x :: xs); unfold dropZ; rw [if_pos hx]; cases xs <;> rfl
      · refine x_ns (g := g) (fl := fl) (Φ := Φ) (W := W) d2 z ⟨1, rfl, .inl ⟨a', _, rfl, SqL.of d2.ha, fun p hp => ?_⟩⟩
        rw [cut1]
        refine ⟨.ref s, z.h0, s, _, 0, 0, rfl, rfl, (d2.new hp _).hs, rfl, ?_⟩
        exact ⟨rfl, p, d2.put hp xs c⟩
    · rw [decide_eq_false hx, if_neg (by decide)]
      exact q _ a' (by rw [← e]; show DrI F H0 S s a' b (dropZ (x :: xs)) sc c H2; rw [show dropZ (x :: xs) = x :: xs from if_neg hx]; exact d2)
theorem natAbs_lt {x : Int} {k : Nat} (h0 : 0 ≤ x) (h1 : x < k) : x.natAbs < k := by omega
/-- the def that draws keeps its promise -/
theorem draw_body {vs : List V} {D : Ends} {E : XK} (h : spF g fl drawFn vs H D.rt E) : drawTS g fl Φ W D (L2.start ["_law_state", "_law_size", "_law_digit", "_law_cell", "_law_one"] vs) H := by
  obtain ⟨F, s, S, ds, x, sub, ha, hS, h0, h⟩ := h
  obtain ⟨ws, rfl, d1, es, v, ws', rfl, rfl, hv, h2, h3⟩ := (show Args g F H s _ [.st, .vl] ds vs from ha)
  subst h2 h3
  have hsm : ∃ n ns sc c, d1 = .int n ∧ x = some (.dr ns sc c) ∧ (0 < n ∧ n.natAbs.log2 < 9000 ∧ 0 ≤ c ∧ c < 1000000000) ∧ ∃ r, drawI ns sc c n = some r ∧ drawFn.sem [d1] x = some (.ret .fr (.int r.1), some r.2) := by
    have hn : drawS [d1] x ≠ none := by
      intro e
      rw [show drawFn.sem [d1] x = none from e] at h
      exact h
    cases d1 with
    | int n =>
      cases x with
      | some x =>
        cases x with
        | dr ns sc c =>
          by_cases gd : 0 < n ∧ n.natAbs.log2 < 9000 ∧ 0 ≤ c ∧ c < 1000000000
          · have e : drawS [.int n] (some (.dr ns sc c)) = (drawI ns sc c n).map fun r => (.ret .fr (.int r.1), some r.2) := if_pos gd
            rw [e] at hn
            cases hr : drawI ns sc c n with
            | none => rw [hr] at hn; exact absurd rfl hn
            | some r => exact ⟨n, ns, sc, c, rfl, rfl, gd, r, hr, by show drawS [.int n] (some (.dr ns sc c)) = _; rw [e, hr]; rfl⟩
          · exact absurd (if_neg gd) hn
        | tk => exact absurd rfl hn
      | none => exact absurd rfl hn
    | _ => exact absurd (by cases x <;> rfl) hn
  obtain ⟨n, ns, sc, c, rfl, rfl, ⟨g1, g2, g3, g4⟩, r, hr, hs⟩ := hsm
  rw [hs] at h
  cases (show v = V.int n from hv)
  obtain ⟨a, b, e1, e2, e3, e4, e5, e6, e7⟩ := hS
  have d0 : DrI F H S s a b ns sc c H := ⟨e1, e2, e3, e4, e5, e6, sub, fun p o q _ => q, fun p q => q, .inl ((e7 a).mpr (.inr rfl)), (e7 s).mpr (.inl rfl)⟩
  -- what is left behind
  have fin : ∀ {H' a' ns' c'}, DrI F H S s a' b ns' sc c' H' → r.2 = .dr ns' sc c' → D.rt (.int r.1) H' := by
    intro H' a' ns' c' d e
    refine h (.int r.1) F H' (fun p => p = s ∨ p = a') ⟨Sub.refl F, d.sub, fun p o q ns => ⟨d.h p o q ns, id⟩, d.e⟩ ?_ ?_ rfl ?_
    · rw [e]; exact ⟨a', b, d.hs, d.ha, d.hb, d.ne, d.fs, d.fa, fun p => Iff.rfl⟩
    · rintro p (rfl | rfl)
      · exact .inl d.ss
      · exact d.sa
    · intro z; cases z
  have st : Sg (L2.start ["_law_state", "_law_size", "_law_digit", "_law_cell", "_law_one"] [V.ref s, V.int n]) s n := ⟨rfl, rfl⟩
  refine ⟨.ref s, rfl, s, _, 2, _, rfl, rfl, SqL.of e1, at2 _ _ _ _, c, 1, rfl, rfl, s, _, 2, 2, rfl, rfl, e1, rfl, ?_⟩
  have d1 := d0.cnt (c + 1)
  refine x_while (g := g) (fl := fl) (Φ := Φ) (W := W) d1 st fun H2 a2 d2 => ?_
  refine x_ne (g := g) (fl := fl) (Φ := Φ) (W := W) d2 st fun H3 d3 => ?_
  unfold drawI at hr
  cases hz : dropZ ns with
  | cons y ys =>
    rw [hz] at hr d3
    cases hr
    rw [if_pos (show (!(y :: ys).isEmpty) = true from rfl)]
    have st2 : Sg ((L2.start ["_law_state", "_law_size", "_law_digit", "_law_cell", "_law_one"] [V.ref s, V.int n]).set 2 (some (.int (y % n)))) s n := ⟨rfl, rfl⟩
    refine x_n0 (g := g) (fl := fl) (Φ := Φ) (W := W) d3 st (.inl ⟨y, rfl, ⟨.int n, rfl, y, n, rfl, rfl, g1, ?_⟩⟩)
    refine x_n0 (g := g) (fl := fl) (Φ := Φ) (W := W) d3 st2 ⟨.int n, rfl, y, n, rfl, rfl, ⟨g1, g2⟩, ?_⟩
    refine x_ns (g := g) (fl := fl) (Φ := Φ) (W := W) d3 st2 ⟨a2, _, 0, 0, rfl, rfl, d3.ha, by simp [ixN], ?_⟩
    exact ⟨.int (y % n), rfl, fin (d3.inn (y / n :: ys)) rfl⟩
  | nil =>
    rw [hz] at hr d3
    rw [if_neg (show ¬ (!([] : List Int).isEmpty) = true by decide)]
    obtain ⟨cell, hc, rfl⟩ := Option.map_eq_some_iff.mp hr
    have hlen : 0 < sc.length := by
      cases sc with
      | nil => simp at hc
      | cons => simp
    have hj : atI (sc.map V.int) ((c + 1) % (sc.length : Int)) = some (.int cell) := by
      have e : (((c + 1) % (sc.length : Int)).toNat : Int) = (c + 1) % (sc.length : Int) := Int.toNat_of_nonneg (Int.emod_nonneg _ (by omega))
      rw [← e]
      exact atI_nat (by rw [List.getElem?_map, hc]; rfl)
    have hl : (sc.map V.int).length = sc.length := by simp
    refine x_sc (g := g) (fl := fl) (Φ := Φ) (W := W) d3 st ?_
    refine x_c (g := g) (fl := fl) (Φ := Φ) (W := W) d3 st (.inl ⟨c + 1, rfl, ?_⟩)
    refine x_sc (g := g) (fl := fl) (Φ := Φ) (W := W) d3 st ⟨.ref b, sc.length, rfl, .inl ⟨_, SqL.of d3.bs, hl.symm⟩, c + 1, sc.length, rfl, rfl, Int.ofNat_lt.mpr hlen, ?_⟩
    refine .inl ⟨b, _, _, _, rfl, rfl, SqL.of d3.bs, hj, .inl ⟨cell, rfl, cell, 2147483647, rfl, rfl, (show (0 : Int) < 2147483647 by decide), ?_⟩⟩
    have hm : 0 ≤ cell % 2147483647 ∧ cell % 2147483647 < 2147483647 := ⟨Int.emod_nonneg _ (by decide), Int.emod_lt_of_pos _ (by decide)⟩
    have wm : ∀ u w : Int, 0 ≤ u → u < 4294967296 → 0 ≤ w → w < 4294967296 → CMulW u w := fun u w h1 h2 h3 h4 =>
      wide_mul (a := 32) (b := 32) (by omega) (by omega) (by decide) (by decide) (by decide)
    refine ⟨.int (cell % 2147483647), rfl, .inl ⟨_, 48271, rfl, rfl, wm _ _ (by omega) (by omega) (by decide) (by decide), ?_⟩⟩
    have st3 : Sg ((L2.start ["_law_state", "_law_size", "_law_digit", "_law_cell", "_law_one"] [V.ref s, V.int n]).set 3 (some (.int (cell % 2147483647)))) s n := ⟨rfl, rfl⟩
    refine x_c (g := g) (fl := fl) (Φ := Φ) (W := W) d3 st3 (.inl ⟨c + 1, 69621, rfl, rfl, wm _ _ (by omega) (by omega) (by decide) (by decide), .inl ⟨_, _, rfl, rfl, .inl ⟨_, 7, rfl, rfl, _, 5, rfl, rfl, ⟨by decide, by decide, ?_⟩, .inl ⟨_, rfl, _, 2147483647, rfl, rfl, (show (0 : Int) < 2147483647 by decide), ?_⟩⟩⟩⟩)
    · omega
    suffices hh : ∀ one : Int, ((cell % 2147483647 * 48271 + (c + 1) * 69621 + 7) ^ (5 : Int).toNat) % 2147483647 = one →
        tSeq (tRet (T g fl Φ (.op .mod [.op .mod [.op .int [.op .pow [.op .add [.op .add [.op .mul [.var 4, .cst (.int 16807)], .op .mul [eC, .cst (.int 40692)]], .cst (.int 13)], .cst (.int 5)]], .cst (.int 2147483629)], .var 1]) W)) tNext D
          (((L2.start ["_law_state", "_law_size", "_law_digit", "_law_cell", "_law_one"] [V.ref s, V.int n]).set 3 (some (.int (cell % 2147483647)))).set 4 (some (.int one))) H3 from hh _ rfl
    intro one hone
    have h1 : 0 ≤ one ∧ one < 2147483647 := by
      rw [← hone]; exact ⟨Int.emod_nonneg _ (by decide), Int.emod_lt_of_pos _ (by decide)⟩
    have st4 : Sg (((L2.start ["_law_state", "_law_size", "_law_digit", "_law_cell", "_law_one"] [V.ref s, V.int n]).set 3 (some (.int (cell % 2147483647)))).set 4 (some (.int one))) s n := ⟨rfl, rfl⟩
    refine ⟨.int one, rfl, .inl ⟨_, 16807, rfl, rfl, wm _ _ (by omega) (by omega) (by decide) (by decide), ?_⟩⟩
    refine x_c (g := g) (fl := fl) (Φ := Φ) (W := W) d3 st4 (.inl ⟨c + 1, 40692, rfl, rfl, wm _ _ (by omega) (by omega) (by decide) (by decide), .inl ⟨_, _, rfl, rfl, .inl ⟨_, 13, rfl, rfl, _, 5, rfl, rfl, ⟨by decide, by decide, ?_⟩, .inl ⟨_, rfl, _, 2147483629, rfl, rfl, (show (0 : Int) < 2147483629 by decide), ?_⟩⟩⟩⟩)
    · omega
    refine ⟨.int n, rfl, _, n, rfl, rfl, g1, ?_⟩
    have e : mixI cell (c + 1) n = ((one * 16807 + (c + 1) * 40692 + 13) ^ (5 : Int).toNat) % 2147483629 % n := by
      rw [← hone]; rfl
    have f := fin d3 rfl
    rw [e] at f
    exact f
end
abbrev drawN : List Str := ["_law_state", "_law_size", "_law_digit", "_law_cell", "_law_one"]
theorem draw_ok {P : Program} {w : World} {g : Gm} {fl : Str → Str} {Φ : Nat → Option Fn} {W : WX} {mg : Str → Option Value} {base : Heap} {x qual : Str} {st : Stmt} {f : Addr} {fd : FuncData} {pn : List Str} {k : Nat}
    (F : Fun g.K x qual st f fd) (Sc : FnScope drawN pn (defScope st)) (hp : pn.length = 2)
    (hb : ∀ (cdv : Value) (A : Around) (outer : List Env) (s : Shared) (H : Hp) (E : XK) (hr : Room k (A.deeper (envOfC qual (defScope st) s.heap.objs.size f cdv))),
      PSs (cxOf (L2.CX P w) P w g.K mg base drawN qual (defScope st) f cdv A outer s H E) (defBody st) (drawTS g fl Φ W)) :
    FnOk P w g.K mg base (L2.CX P w) (k + 1) f fd pn (spF g fl drawFn) := by
  refine F.okX Sc (fun vs H Q E h => ?_) (fun cdv A outer s H vs Q E hr h => ⟨_, hb cdv A outer s H E hr, draw_body h⟩)
  obtain ⟨F, s, S, ds, x, _, ha, _⟩ := h
  rw [ha.len, hp]; rfl
section
variable {X : Cx} {g : Gm} {fl : Str → Str} {Φ : Nat → Option Fn} {W : WX} {e : Expr} {ee : E} {pos : Pos}
theorem d_aug {p2 p3 : Pos} {x : Str} (k : CxOk X g) (hN : X.N[0]? = some x) (hv : Vis X.env.scope x) (hd : (x == ("__debug__" : Str)) = false) (hcd : (x == ("__classdict__" : Str)) = false) {i0 i1 : Int} {j0 j1 : Nat} {p0 p1 : Pos}
    (ha : ∀ ov iv new, augStore (.Constant (.int i0) j0 p0) ov iv new = (do holding [new, ov, iv] (setItem ov iv new); release [new, ov, iv] []; pure .next) := by intros; rfl) :
    PS X (.AugAssign (.Subscript (.Name x p3) (.Constant (.int i0) j0 p0) p2) .Add (.Constant (.int i1) j1 p1) pos) (tAugS (tVar 0) (tC (.int i0)) (tC (.int i1)) (rIxL g.K) (ipI fun i j => i + j) rSetL) := by
  have h := get_list (X := X)
  rw [k.hK] at h
  exact ps_augS (pe_var hN hv hd hcd) pe_int h pe_int ip_add set_list ha
theorem d_set2 {a ix : Expr} {ea ei : E} {p2 : Pos} (he : Pe X g fl Φ W e ee) (ho : Pe X g fl Φ W a ea) (hix : Pe X g fl Φ W ix ei) (hs : swapsWithSole [.Subscript a ix p2] e pos.line X.env = pure false := by rfl) (hw : swappedStores [.Subscript a ix p2] e X.env = pure none := by rfl)
    (h1 : (assignEach [.Subscript a ix p2] X.env).map (·.2) = [assign (.Subscript a ix p2) X.env] := by rfl) (ha : ∀ v, assign (.Subscript a ix p2) X.env v = (do
      let ov ← holding [v] (eval a X.env)
      let iv ← holding [v, ov] (eval ix X.env)
      standAt p2
      holding [v, ov, iv] (setItem ov iv v)
      release [v, ov, iv] []) := by intro _; rfl) : PS X (.Assign [.Subscript a ix p2] e pos) (tAsg (T g fl Φ ee W) (gSub (T g fl Φ ea W) (T g fl Φ ei W) rSetL)) := ps_asg he (pg_sub ho hix set_list ha) hs hw h1
end
end VI

set_option Elab.async false
set_option linter.all false
set_option maxRecDepth 100000
namespace VI
open PySem PySem.Spec PyProof.Rows L2

/-! ### the start of drawing -/
def bigI (ns : List Int) : List Int := (ns.filter fun n => decide ((10 : Int) ^ 18 ≤ if n < 0 then -n else n)).map fun n => if n < 0 then -n else n
theorem bigI_in {xs : List Int} {x : Int} (h : (10 : Int) ^ 18 ≤ if x < 0 then -x else x) : bigI (xs ++ [x]) = bigI xs ++ [if x < 0 then -x else x] := by
  unfold bigI
  rw [List.filter_append, List.map_append]
  congr 1
  rw [List.filter_cons_of_pos (by exact decide_eq_true h)]; rfl
theorem bigI_out {xs : List Int} {x : Int} (h : ¬ (10 : Int) ^ 18 ≤ if x < 0 then -x else x) : bigI (xs ++ [x]) = bigI xs := by
  unfold bigI
  rw [List.filter_append, List.filter_cons_of_neg (by simpa using h)]
  simp
/-- a new state: the big numbers, the script, a count -/
def spStart (g : Gm) : Sp := fun vs H Q _ => ∃ p ns, vs = [.ref p] ∧ SqL g.K H p (ns.map V.int) ∧ ns.length < 1000000 ∧
  ∀ s a b H', Sub H H' → H s = none → H a = none → H b = none → a ≠ s → b ≠ s → a ≠ b → H' s = some (.lst [.ref a, .ref b, .int 0]) → H' a = some (.lst ((bigI ns).map V.int)) → H' b = some (.lst ((ns ++ [5]).map V.int)) → Q (.ref s) H'
abbrev eBig : E := .lc .seq (.var 0) (.nm 1) [.op .ge [.op .abs [.var 1], .op .pow [.cst (.int 10), .cst (.int 18)]]] (.op .abs [.var 1]) [1]
abbrev startE : E := .op .mkl [eBig, .op .add [.op .list [.var 0], .op .mkl [.cst (.int 5)]], .cst (.int 0)]
abbrev startN : List Str := ["_law_script", "_law_cell"]
section
variable {g : Gm} {fl : Str → Str} {Φ : Nat → Option Fn} {W : WX} {H : Hp}
theorem line_big : 1000000 ≤ sizeLine := by decide
theorem start_body {vs : List V} {D : Ends} {E : XK} (h : spStart g vs H D.rt E) : tSeq (tRet (T g fl Φ startE W)) tNext D (L2.start startN vs) H := by
  obtain ⟨p, ns, rfl, hq, hl, h⟩ := h
  have hz := line_big
  refine ⟨.ref p, rfl, p, rfl, .inl ⟨⟨_, hq⟩, fun Da hDa => ?_⟩⟩
  refine lc_list (xs := ns.map V.int) (fun i H1 => H1 Da = some (.lst ((bigI (ns.take i)).map V.int)) ∧ Sub H H1) ⟨upd_same, Sub.new _ hDa⟩ (fun i H1 _ ⟨_, s⟩ => s.sqL hq) (fun i x H1 hx ⟨q1, q2⟩ => ?_) fun H1 ⟨q1, q2⟩ => ?_
  · have hi : i < ns.length := by
      have := (List.getElem?_eq_some_iff.mp hx).1
      simpa using this
    rw [List.getElem?_map, List.getElem?_eq_getElem hi] at hx
    cases hx
    have ht : ns.take (i + 1) = ns.take i ++ [ns[i]] := by rw [List.take_add_one, List.getElem?_eq_getElem hi]; rfl
    have lb : ∀ ms : List Int, (bigI ms).length ≤ ms.length := fun ms => by
      unfold bigI; rw [List.length_map]; exact List.length_filter_le _ _
    refine ⟨rfl, ?_⟩
    refine ⟨.int ns[i], rfl, ns[i], rfl, 10, 18, rfl, rfl, ⟨by decide, by decide, by decide⟩, _, _, rfl, rfl, _, rfl, ?_⟩
    by_cases hb : (10 : Int) ^ 18 ≤ if ns[i] < 0 then -ns[i] else ns[i]
    · dsimp only
      have hb' : (10 : Int) ^ (Int.toNat 18) ≤ if ns[i] < 0 then -ns[i] else ns[i] := hb
      rw [if_pos (decide_eq_true hb')]
      refine ⟨.int ns[i], rfl, ns[i], rfl, _, q1, ?_, ?_, ?_⟩
      · rw [List.length_map]
        have := lb (ns.take i)
        rw [List.length_take] at this
        omega
      · rw [upd_same, ht, bigI_in hb, List.map_append]; rfl
      · exact fun q o e => by
          rw [upd_ne (ne_of_none e hDa)]; exact q2 q o e
    · dsimp only
      have hb' : ¬ (10 : Int) ^ (Int.toNat 18) ≤ if ns[i] < 0 then -ns[i] else ns[i] := hb
      rw [if_neg (by simp only [decide_eq_true_eq]; exact hb')]
      exact ⟨by rw [q1, ht, bigI_out hb], q2⟩
  · rw [List.length_map, List.take_length] at q1
    refine ⟨.ref p, rfl, p, _, rfl, .inl (q2.sqL hq), fun l hl1 => ?_⟩
    refine ⟨by decide, fun m hm => ?_⟩
    have n1 : l ≠ m := fun e => by subst e; rw [upd_same] at hm; cases hm
    refine .inr (.inr (.inl ⟨l, m, ns.map V.int, [.int 5], rfl, rfl, by rw [upd_ne n1]; exact upd_same, upd_same, by simp; omega, fun b hb => ?_⟩))
    refine ⟨by show 3 ≤ sizeLine; omega, fun s hs => ?_⟩
    have up : ∀ {H2 : Hp} {x : Addr} (o : HO), H2 x = none → ∀ q u, H2 q = some u → upd H2 x o q = some u := fun o hx q u e => by
      rw [upd_ne (ne_of_none e hx)]; exact e
    have back : ∀ {H2 : Hp} {x : Addr} (o : HO) (y : Addr), upd H2 x o y = none → H2 y = none := fun {H2 x} o y e => by
      by_cases z : y = x
      · subst z; rw [upd_same] at e; cases e
      · rwa [upd_ne z] at e
    have bH : ∀ y, H1 y = none → H y = none := fun y e => by
      cases z : H y with
      | none => rfl
      | some o => rw [q2 _ _ z] at e; cases e
    have a1 := up (.lst (ns.map V.int)) hl1 _ _ q1
    have a2 := up (.lst [V.int 5]) hm _ _ a1
    have a3 := up (.lst (ns.map V.int ++ [V.int 5])) hb _ _ a2
    have b3 := upd_same (H := upd (upd H1 l (.lst (ns.map V.int))) m (.lst [V.int 5])) (a := b) (o := .lst (ns.map V.int ++ [V.int 5]))
    refine h s Da b _ ?_ (bH s (back _ _ (back _ _ (back _ _ hs)))) hDa (bH b (back _ _ (back _ _ hb))) (ne_of_none a3 hs) (ne_of_none b3 hs) (ne_of_none a2 hb) upd_same (up _ hs _ _ a3) ?_
    · exact fun q o e => up _ hs _ _ (up _ hb _ _ (up _ hm _ _ (up _ hl1 _ _ (q2 q o e))))
    · have z := up (.lst [V.ref Da, V.ref b, V.int 0]) hs _ _ b3
      rw [List.map_append]
      exact z
end
theorem start_ok {P : Program} {w : World} {g : Gm} {fl : Str → Str} {Φ : Nat → Option Fn} {W : WX} {mg : Str → Option Value} {base : Heap} {x qual : Str} {st : Stmt} {f : Addr} {fd : FuncData} {pn : List Str} {k : Nat}
    (F : Fun g.K x qual st f fd) (Sc : FnScope startN pn (defScope st)) (hp : pn.length = 1)
    (hb : ∀ (cdv : Value) (A : Around) (outer : List Env) (s : Shared) (H : Hp) (E : XK) (hr : Room k (A.deeper (envOfC qual (defScope st) s.heap.objs.size f cdv))),
      PSs (cxOf (L2.CX P w) P w g.K mg base startN qual (defScope st) f cdv A outer s H E) (defBody st) (tSeq (tRet (T g fl Φ startE W)) tNext)) :
    FnOk P w g.K mg base (L2.CX P w) (k + 1) f fd pn (spStart g) := by
  refine F.okX Sc (fun vs H Q E h => ?_) (fun cdv A outer s H vs Q E hr h => ⟨_, hb cdv A outer s H E hr, start_body h⟩)
  obtain ⟨p, ns, rfl, _⟩ := h
  rw [hp]; rfl
end VI

set_option Elab.async false
set_option linter.all false
set_option maxRecDepth 100000
namespace VI
open PySem PySem.Spec PyProof.Rows L2

/-! ### a law that draws -/
def lawAt (Φ : Nat → Option Fn) (n : Nat) (body : List S) (ns : List Int) : Out := exs Φ body { ρ := .no :: .st :: List.replicate n .no, ds := some (.dr (bigI ns) (ns ++ [5]) 0) }
def lawRun (Φ : Nat → Option Fn) (n : Nat) (body : List S) (ns : List Int) : Prop := ∃ m', lawAt Φ n body ns = .ret .fr (.bl true) m'
def spLaw (g : Gm) (Φ : Nat → Option Fn) (n : Nat) (body : List S) : Sp := fun vs H Q _ => ∃ p ns, vs = [.ref p] ∧ SqL g.K H p (ns.map V.int) ∧ ns.length < 1000000 ∧ lawRun Φ n body ns ∧ ∀ H', Q (.bl true) H'
section
variable {g : Gm} {fl : Str → Str} {Φ : Nat → Option Fn} {W : WX} {H : Hp}
open Classical in
theorem law_body {n : Nat} {body : List S} {N : List Str} (hN : N.length = n) {vs : List V} {D : Ends} {E : XK} (h : spLaw g Φ n body vs H D.rt E) :
    tSeq (tAsg (tCallS (spStart g) (WE W) (TL g fl Φ [.var 0] [] W)) (gName 1)) (TSs g fl Φ body W) D (L2.start ("_law_script" :: "_law_state" :: N) vs) H := by
  obtain ⟨p, ns, rfl, hq, hl, ⟨m', hr⟩, q⟩ := h
  refine ⟨.ref p, rfl, p, ns, rfl, hq, hl, fun s a b H' sub hs ha hb n1 n2 n3 e1 e2 e3 => ?_⟩
  have hba : b ≠ a := fun e => n3 e.symm
  refine sndSs g fl Φ ⟨fun y => if y = s ∨ y = a then none else H' y, H', fun y => y = s ∨ y = a, none⟩ body W _ H' { ρ := .no :: .st :: List.replicate n .no, ds := some (.dr (bigI ns) (ns ++ [5]) 0) } [] _
    ⟨fun y => if y = s ∨ y = a then none else H' y, fun y => if y = s ∨ y = a then some .st else none, s, ?_⟩ ?_
  · refine ⟨fun y o e => ?_, fun y t e => ?_, Sub.refl _, fun y o e _ => ⟨e, id⟩, fun y e => e, fun y t e => ?_, ?_, fun i k d e => ?_, fun i e => ?_, fun i v k d e => by simp at e, fun x e => ?_, fun s0 e => by cases e⟩
    · by_cases z : y = s ∨ y = a
      · simp [z] at e
      · simpa [z] using e
    · by_cases z : y = s ∨ y = a
      · refine ⟨by simp [z], ?_⟩
        rcases z with rfl | rfl
        · rw [e1]; simp
        · rw [e2]; simp
      · simp [z] at e
    · by_cases z : y = s ∨ y = a
      · simp [z] at e; exact .inr ⟨e.symm, z⟩
      · simp [z] at e
    · show ((L2.start ("_law_script" :: "_law_state" :: N) [V.ref p]).set 1 (some (V.ref s))).length = (Slot.no :: Slot.st :: List.replicate n Slot.no).length
      rw [List.length_set]
      simp [L2.start, hN]
    · exfalso
      match i with
      | 0 => cases e
      | 1 => cases e
      | i + 2 =>
        have e' : (List.replicate n Slot.no)[i]? = some (.th k d) := e
        rw [List.getElem?_replicate] at e'
        split at e' <;> cases e'
    · match i with
      | 0 => cases e
      | 1 => rfl
      | i + 2 =>
        have e' : (List.replicate n Slot.no)[i]? = some .st := e
        rw [List.getElem?_replicate] at e'
        split at e' <;> cases e'
    · cases e
      exact ⟨a, b, e1, e2, by simp [n2, hba, e3], by simp, by simp, n1⟩
  · have hr' : exs Φ body { ρ := .no :: .st :: List.replicate n .no, ds := some (.dr (bigI ns) (ns ++ [5]) 0) } = .ret .fr (.bl true) m' := hr
    rw [hr']
    intro v σ H1 ⟨F1, O1, s1, ok⟩
    have t : Rep g F1 (.bl true) v := ok.temps 0 v .fr (.bl true) rfl
    cases (show v = .bl true from t)
    exact q H1
structure Sok (P : Program) (w : World) (g : Gm) (mg : Str → Option Value) (base : Heap) : Prop where
  ex : ∃ f fd, FnOk P w g.K mg base (L2.CX P w) 1 f fd ["_law_script"] (spStart g) ∧ mg "_law_start" = some (.ref f) ∧ PySem.W.keepIn g.K (.ref f) = true ∧ Binds g.K fd ["_law_script"] []
theorem s_start {X : Cx} {p p' p2 pos pos2 : Pos} (k : CxOk X g) (S : Sok X.prog X.w g X.mg X.base) {j : Nat} (hr : Room j X.A) (hj : 1 ≤ j) (tk : Takes X W) (hN : X.N.Nodup) (ha : Pa X g fl Φ W [.Name "_law_script" p2] [.var 0] []) (hi : X.N[1]? = some ("_law_state" : Str) := by rfl)
    (hx : Loc X.env.scope "_law_state" := by first | exact Or.inl rfl | exact Or.inr rfl) (hg : Gl X "_law_start" := by rfl) (hs : swapsWith (.Call (.Name "_law_start" p) [.Name "_law_script" p2] [] pos) (some (.Name "_law_state" p')) pos2.line X.env = pure false := by rfl)
    (hf : X.fn "_law_state" = true ∨ X.env.scope.names.lookup ("_law_state" : Str) = some .local := by first | exact .inl rfl | exact .inr rfl | assumption)
    (he : starEach [.Name "_law_script" p2] X.env = (false, eval (.Name "_law_script" p2) X.env) :: starEach [] X.env := by rfl) (hpl : (backTo pos (starEach [] X.env)).any (·.1) = false := by rfl) :
    PS X (.Assign [.Name "_law_state" p'] (.Call (.Name "_law_start" p) [.Name "_law_script" p2] [] pos) pos2) (tAsg (tCallS (spStart g) (WE W) (TL g fl Φ [.var 0] [] W)) (gName 1)) := by
  obtain ⟨f, fd, F, hm, hk, hb⟩ := S.ex
  exact ps_set hN hi hx (pe_callS (by rw [k.hK]; exact F) (hr.mono hj) hg hm (by rw [k.hK]; exact hk) (by rw [k.hK]; exact hb) (fun σ => passAt tk σ) ha (by decide) he hpl) hs hf
theorem law_ok {P : Program} {w : World} {g : Gm} {mg : Str → Option Value} {base : Heap} {x qual : Str} {st : Stmt} {f : Addr} {fd : FuncData} {N pn : List Str} {k n : Nat} {body : List S}
    (F : Fun g.K x qual st f fd) (Sc : FnScope ("_law_script" :: "_law_state" :: N) pn (defScope st)) (hN : N.length = n) (hp : pn.length = 1)
    (hb : ∀ (cdv : Value) (A : Around) (outer : List Env) (s : Shared) (H : Hp) (E : XK) (hr : Room k (A.deeper (envOfC qual (defScope st) s.heap.objs.size f cdv))),
      PSs (cxOf (L2.CX P w) P w g.K mg base ("_law_script" :: "_law_state" :: N) qual (defScope st) f cdv A outer s H E) (defBody st) (tSeq (tAsg (tCallS (spStart g) (WE (fun cls d _ H => E cls d H)) (TL g fl Φ [.var 0] [] (fun cls d _ H => E cls d H))) (gName 1)) (TSs g fl Φ body (fun cls d _ H => E cls d H)))) :
    FnOk P w g.K mg base (L2.CX P w) (k + 1) f fd pn (spLaw g Φ n body) := by
  refine F.okX Sc (fun vs H Q E h => ?_) (fun cdv A outer s H vs Q E hr h => ⟨_, hb cdv A outer s H E hr, law_body hN h⟩)
  obtain ⟨p, ns, rfl, _⟩ := h
  rw [hp]; rfl
end
theorem cx_no {P : Program} {w : World} {o : List Env} {H : Hp} {s : Shared} {e : Value} {s' : Shared} (h : L2.CX P w o H s (fun _ _ _ => False) e s') : False := by
  obtain ⟨a, B, H', cls, d, _, _, _, _, _, _, _, z⟩ := h
  exact z
end VI

set_option Elab.async false
set_option linter.all false
set_option maxRecDepth 100000
namespace VI
open PySem PySem.Spec PyProof.Rows L2

/-! ### the runs, step by step -/
section
variable {α β : Type} {a : α} {m m1 : M} {f : α → M → Rs β} {F : α → M → Out} {c : Str} {d : D}
@[simp] theorem rs_ok : (Rs.ok a m).bind f = f a m := rfl
@[simp] theorem rs_ex : (Rs.ex c d m : Rs α).bind f = .ex c d m := rfl
@[simp] theorem rs_no : (Rs.no : Rs α).bind f = .no := rfl
@[simp] theorem ro_ok : (Rs.ok a m).out F = F a m := rfl
@[simp] theorem ro_ex : (Rs.ex c d m : Rs α).out F = .ex c d m := rfl
@[simp] theorem ro_no : (Rs.no : Rs α).out F = .no := rfl
end
section
variable {m : M} {F : M → Out} {k : Kd} {c : Str} {d : D}
@[simp] theorem ob_nx : (Out.nx m).bind F = F m := rfl
@[simp] theorem ob_ret : (Out.ret k d m).bind F = .ret k d m := rfl
@[simp] theorem ob_ex : (Out.ex c d m).bind F = .ex c d m := rfl
@[simp] theorem ob_brk : (Out.brk m).bind F = .brk m := rfl
@[simp] theorem ob_cnt : (Out.cnt m).bind F = .cnt m := rfl
end
def evV : Option Slot → Nat → M → Rs (Kd × D)
  | some (.th .fr d), _, m => .ok (.fr, d) m
  | some (.th .ow d), i, m => .ok (.fr, d) (m.put i (.th .fr d))
  | _, _, _ => .no
def opV : Option Slot → Nat → M → Rs Opn
  | some (.th .fr d), _, m => .ok (.tmp .fr d) m
  | some (.th .ow _), i, m => .ok (.bor i) m
  | some (.th .le _), i, m => .ok (.bor i) m
  | _, _, _ => .no
section
variable {Φ : Nat → Option Fn} {m m' : M} {i : Nat} {e a b t : E} {es : List E} {s : S} {ss ss2 : List S} {d : D} {o : Op} {f : M → Rs (Kd × D)} {ds : Option DS} {x : Slot} {r : List Slot} {k : Kd}
@[simp] theorem evV_fr : evV (some (.th .fr d)) i m = .ok (.fr, d) m := rfl
@[simp] theorem evV_ow : evV (some (.th .ow d)) i m = .ok (.fr, d) (m.put i (.th .fr d)) := rfl
@[simp] theorem opV_fr : opV (some (.th .fr d)) i m = .ok (.tmp .fr d) m := rfl
@[simp] theorem opV_ow : opV (some (.th .ow d)) i m = .ok (.bor i) m := rfl
@[simp] theorem opV_le : opV (some (.th .le d)) i m = .ok (.bor i) m := rfl
@[simp] theorem ev_var : ev Φ (.var i) m = evV m.ρ[i]? i m := by
  simp only [ev]
  generalize m.ρ[i]? = z
  cases z with
  | none => rfl
  | some x => cases x with
    | th k d => cases k <;> rfl
    | _ => rfl
@[simp] theorem ev_cst {c : C} : ev Φ (.cst c) m = if c.ok = true then .ok (.fr, c.d) m else .no := rfl
@[simp] theorem ev_op : ev Φ (.op o es) m = if o.vm = true then (evVs Φ es m).bind fun ds m' => retO (opD o ds) m' else (evOs Φ es m).bind fun os m' => retO ((resO m' os).bind (opD o)) m' := rfl
@[simp] theorem evOs_nil : evOs Φ [] m = .ok [] m := rfl
@[simp] theorem evOs_cons : evOs Φ (e :: es) m = (opnOf e (ev Φ e) m).bind fun d m1 => (evOs Φ es m1).bind fun ds m2 => .ok (d :: ds) m2 := rfl
@[simp] theorem evVs_nil : evVs Φ [] m = .ok [] m := rfl
@[simp] theorem evVs_cons : evVs Φ (e :: es) m = (frzOf (ev Φ e) m).bind fun d m1 => (evVs Φ es m1).bind fun ds m2 => .ok (d :: ds) m2 := rfl
@[simp] theorem frz_eq : frzOf f m = (f m).bind fun r m' => .ok r.2 m' := rfl
@[simp] theorem opn_var : opnOf (.var i) f m = opV m.ρ[i]? i m := by
  simp only [opnOf]
  generalize m.ρ[i]? = z
  cases z with
  | none => rfl
  | some x => cases x with
    | th k d => cases k <;> rfl
    | _ => rfl
@[simp] theorem opn_cst {c : C} : opnOf (.cst c) f m = (f m).bind fun r m' => .ok (.tmp r.1 r.2) m' := rfl
@[simp] theorem opn_op : opnOf (.op o es) f m = (f m).bind fun r m' => .ok (.tmp r.1 r.2) m' := rfl
@[simp] theorem opn_call {i : Nat} : opnOf (.call i es) f m = (f m).bind fun r m' => .ok (.tmp r.1 r.2) m' := rfl
@[simp] theorem opn_lc {kk ie tg cond elt vs} : opnOf (.lc kk ie tg cond elt vs) f m = (f m).bind fun r m' => .ok (.tmp r.1 r.2) m' := rfl
@[simp] theorem opn_and : opnOf (.andE a b) f m = (f m).bind fun r m' => .ok (.tmp r.1 r.2) m' := rfl
@[simp] theorem opn_or : opnOf (.orE a b) f m = (f m).bind fun r m' => .ok (.tmp r.1 r.2) m' := rfl
@[simp] theorem opn_not : opnOf (.notE a) f m = (f m).bind fun r m' => .ok (.tmp r.1 r.2) m' := rfl
@[simp] theorem opn_ite : opnOf (.ite t a b) f m = (f m).bind fun r m' => .ok (.tmp r.1 r.2) m' := rfl
@[simp] theorem opn_bm {mm} : opnOf (.bm mm a es) f m = (f m).bind fun r m' => .ok (.tmp r.1 r.2) m' := rfl
@[simp] theorem opn_mut {mm} {i : Nat} : opnOf (.mut mm i es) f m = (f m).bind fun r m' => .ok (.tmp r.1 r.2) m' := rfl
@[simp] theorem opn_slcL : opnOf (.slcL a b) f m = (f m).bind fun r m' => .ok (.tmp r.1 r.2) m' := rfl
@[simp] theorem opn_slcH : opnOf (.slcH a b) f m = (f m).bind fun r m' => .ok (.tmp r.1 r.2) m' := rfl
@[simp] theorem opn_slcB : opnOf (.slcB a b t) f m = (f m).bind fun r m' => .ok (.tmp r.1 r.2) m' := rfl
@[simp] theorem retO_some {α : Type} {x : α} : retO (some x) m = .ok x m := rfl
@[simp] theorem res_nil : resO m [] = some [] := rfl
@[simp] theorem res_tmp {os : List Opn} : resO m (.tmp k d :: os) = (resO m os).map (d :: ·) := by
  show (match some d, resO m os with | some d, some ds => some (d :: ds) | _, _ => none) = _
  cases resO m os <;> rfl
@[simp] theorem put_mk : (M.mk r ds).put i x = ⟨r.set i x, ds⟩ := rfl
@[simp] theorem exs_nil : exs Φ [] m = .nx m := rfl
@[simp] theorem exs_cons : exs Φ (s :: ss) m = (ex Φ s m).bind (exs Φ ss) := rfl
@[simp] theorem ex_asg : ex Φ (.asg (.nm i) e) m = (ev Φ e m).out fun r m1 => if i < m1.ρ.length then .nx (m1.put i (.th r.1 r.2)) else .no := rfl
@[simp] theorem ex_expr : ex Φ (.expr e) m = (ev Φ e m).out fun _ m1 => .nx m1 := rfl
@[simp] theorem ex_ite : ex Φ (.ite t ss ss2) m = (evT Φ t m).out fun t m1 => if t = true then exs Φ ss m1 else exs Φ ss2 m1 := rfl
@[simp] theorem ex_retN : ex Φ .retN m = .ret .fr .non m := rfl
@[simp] theorem evT_and : evT Φ (.andE a b) m = (evT Φ a m).bind fun x m1 => if x = true then evT Φ b m1 else .ok false m1 := rfl
@[simp] theorem evT_or : evT Φ (.orE a b) m = (evT Φ a m).bind fun x m1 => if x = true then .ok true m1 else evT Φ b m1 := rfl
@[simp] theorem evT_not : evT Φ (.notE a) m = (evT Φ a m).bind fun x m1 => .ok (!x) m1 := rfl
def isB : Option (Kd × D) → M → Rs Bool
  | some (_, .bl c), m => .ok c m
  | _, _ => .no
@[simp] theorem isB_bl {c : Bool} : isB (some (k, .bl c)) m = .ok c m := rfl
theorem evT_cmp (h : o.cmp = true) : evT Φ (.op o es) m = (evOs Φ es m).bind fun os m' => isB ((resO m' os).bind (opD o)) m' := by
  simp only [evT, h, if_true]
  congr 1; funext os m'
  generalize (resO m' os).bind (opD o) = z
  cases z with
  | none => rfl
  | some x => obtain ⟨k, d⟩ := x; cases d <;> rfl
theorem evT_op (h : o.cmp = false) : evT Φ (.op o es) m = (ev Φ (.op o es) m).bind fun x m1 => retO (trD x.2) m1 := by
  simp only [evT, h]; rfl
@[simp] theorem evT_opq : evT Φ (.op o es) m = if o.cmp = true then (evOs Φ es m).bind fun os m' => isB ((resO m' os).bind (opD o)) m' else (ev Φ (.op o es) m).bind fun x m1 => retO (trD x.2) m1 := by
  cases h : o.cmp with
  | true => rw [if_pos rfl]; exact evT_cmp h
  | false => rw [if_neg (by decide)]; exact evT_op h
def borV : Option Slot → Option D
  | some (.th .ow d) => some d
  | some (.th .le d) => some d
  | some (.th .fr d) => some d
  | _ => none
@[simp] theorem borV_ow : borV (some (.th .ow d)) = some d := rfl
@[simp] theorem borV_le : borV (some (.th .le d)) = some d := rfl
@[simp] theorem borV_fr : borV (some (.th .fr d)) = some d := rfl
@[simp] theorem tmp_d : (Opn.tmp k d).d m = some d := rfl
@[simp] theorem bor_d : (Opn.bor i).d m = borV m.ρ[i]? := by
  simp only [Opn.d]
  generalize m.ρ[i]? = z
  cases z with
  | none => rfl
  | some x => cases x with
    | th k d => cases k <;> rfl
    | _ => rfl
@[simp] theorem res_bor {os : List Opn} : resO m (.bor i :: os) = (borV m.ρ[i]?).bind fun d => (resO m os).map (d :: ·) := by
  show (match (Opn.bor i).d m, resO m os with | some d, some ds => some (d :: ds) | _, _ => none) = _
  rw [bor_d]
  cases borV m.ρ[i]? with
  | none => rfl
  | some d => cases resO m os <;> rfl
def strK : Kd × D → (Str → Rs (Kd × D)) → Rs (Kd × D)
  | (_, .str a), f => f a
  | _, _ => .no
@[simp] theorem strK_str {x : Str} {f : Str → Rs (Kd × D)} : strK (k, .str x) f = f x := rfl
@[simp] theorem ev_bm {mm : Bm} : ev Φ (.bm mm a es) m = (ev Φ a m).bind fun x m1 => strK x fun z => (evOs Φ es m1).bind fun os m2 => retO ((resO m2 os).bind (bmD mm (.str z))) m2 := by
  simp only [ev]
  congr 1; funext x m1
  obtain ⟨k, d⟩ := x
  cases d <;> rfl
/-- a store into a list -/
def sxK (i : Nat) (d : D) : Option Slot → M → (M → Rs (Kd × D)) → Out
  | some (.th .ow (.lst _)), m, f => (f m).out fun x m2 => match x with
    | (_, .int j) => match m2.ρ[i]? with
      | some (.th .ow (.lst xs)) => match setD xs j d with
        | some xs' => .nx (m2.put i (.th .ow (.lst xs')))
        | none => .no
      | _ => .no
    | _ => .no
  | _, _, _ => .no
theorem ex_setIx {j : Int} {xs ys xs' : List D} {m1 m2 : M} {kk : Kd} {ix : E} {r : Kd × D} (h1 : ev Φ e m = .ok r m1) (h2 : m1.ρ[i]? = some (.th .ow (.lst xs))) (h3 : ev Φ ix m1 = .ok (kk, .int j) m2) (h4 : m2.ρ[i]? = some (.th .ow (.lst ys))) (h5 : setD ys j r.2 = some xs') :
    ex Φ (.setIx i ix e) m = .nx (m2.put i (.th .ow (.lst xs'))) := by
  simp only [ex, frz_eq, h1, rs_ok, ro_ok, h2, h3, h4, h5]
/-! truth of a value, then one of two -/
def tri {α : Type} : Option Bool → α → α → α → α
  | some true, x, _, _ => x
  | some false, _, y, _ => y
  | none, _, _, z => z
@[simp] theorem tri_t {α : Type} {x y z : α} : tri (some true) x y z = x := rfl
@[simp] theorem tri_f {α : Type} {x y z : α} : tri (some false) x y z = y := rfl
theorem tri_b {α : Type} {c : Bool} {x y z : α} : tri (some c) x y z = if c = true then x else y := by cases c <;> rfl
@[simp] theorem ev_and : ev Φ (.andE a b) m = (ev Φ a m).bind fun x m1 => tri (trD x.2) ((ev Φ b m1).bind fun y m2 => .ok (.fr, y.2) m2) (.ok (.fr, x.2) m1) .no := by
  simp only [ev, frz_eq]
  cases ev Φ a m with
  | no => rfl
  | ex => rfl
  | ok x m1 =>
    simp only [rs_ok]
    generalize trD x.2 = z
    cases z with
    | none => rfl
    | some c =>
      cases c
      · rfl
      · simp only [tri_t]
        cases ev Φ b m1 <;> rfl
@[simp] theorem ev_or : ev Φ (.orE a b) m = (ev Φ a m).bind fun x m1 => tri (trD x.2) (.ok (.fr, x.2) m1) ((ev Φ b m1).bind fun y m2 => .ok (.fr, y.2) m2) .no := by
  simp only [ev, frz_eq]
  cases ev Φ a m with
  | no => rfl
  | ex => rfl
  | ok x m1 =>
    simp only [rs_ok]
    generalize trD x.2 = z
    cases z with
    | none => rfl
    | some c =>
      cases c
      · simp only [tri_f]
        cases ev Φ b m1 <;> rfl
      · rfl
@[simp] theorem ev_ite : ev Φ (.ite t a b) m = (evT Φ t m).bind fun t m1 => if t = true then ev Φ a m1 else ev Φ b m1 := rfl
def notB : Option Bool → M → Rs (Kd × D)
  | some c, m => .ok (.fr, .bl (!c)) m
  | none, _ => .no
@[simp] theorem notB_some {c : Bool} : notB (some c) m = .ok (.fr, .bl (!c)) m := rfl
@[simp] theorem ev_not : ev Φ (.notE a) m = (opnOf a (ev Φ a) m).bind fun x m1 => notB ((x.d m1).bind trD) m1 := by
  simp only [ev]
  congr 1; funext x m1
  generalize (x.d m1).bind trD = z
  cases z <;> rfl
/-! calls -/
theorem ev_call {j : Nat} {fn : Fn} (h : Φ j = some fn) : ev Φ (.call j es) m = (evAs Φ fn.ps es m).bind fun ds m1 => callF fn ds m1 := by
  simp only [ev, h]
theorem evT_call {j : Nat} {fn : Fn} (h : Φ j = some fn) : evT Φ (.call j es) m = (ev Φ (.call j es) m).bind fun x m1 => retO (trD x.2) m1 := by
  simp only [evT, ev, h]
  cases evAs Φ fn.ps es m <;> rfl
@[simp] theorem evAs_nil : evAs Φ [] [] m = .ok [] m := rfl
@[simp] theorem evAs_vl {ps : List Pm} : evAs Φ (.vl :: ps) (e :: es) m = (ev Φ e m).bind fun d m1 => (evAs Φ ps es m1).bind fun ds m2 => .ok (d.2 :: ds) m2 := by
  simp only [evAs, frz_eq]
  cases ev Φ e m <;> rfl
def leK : Option D → Opn → List D → M → Rs (List D)
  | some d, x, ds, m => if leOk x d then .ok (d :: ds) m else .no
  | none, _, _, _ => .no
@[simp] theorem leK_some {x : Opn} {ds : List D} : leK (some d) x ds m = if leOk x d then .ok (d :: ds) m else .no := rfl
@[simp] theorem evAs_le {ps : List Pm} : evAs Φ (.le :: ps) (e :: es) m = (opnOf e (ev Φ e) m).bind fun x m1 => (evAs Φ ps es m1).bind fun ds m2 => leK (x.d m2) x ds m2 := by
  simp only [evAs]
  congr 1; funext x m1; congr 1; funext ds m2
  generalize x.d m2 = z
  cases z <;> rfl
def stK : Option Slot → Rs (List D) → Rs (List D)
  | some .st, r => r
  | _, _ => .no
@[simp] theorem stK_st {x : Rs (List D)} : stK (some .st) x = x := rfl
@[simp] theorem evAs_st {ps : List Pm} : evAs Φ (.st :: ps) (.var i :: es) m = stK m.ρ[i]? ((evAs Φ ps es m).bind fun ds m2 => stK m2.ρ[i]? (.ok ds m2)) := by
  simp only [evAs]
  generalize m.ρ[i]? = z
  cases z with
  | none => rfl
  | some x =>
    cases x with
    | st =>
      simp only [stK_st]
      congr 1; funext ds m2
      generalize m2.ρ[i]? = z
      cases z with
      | none => rfl
      | some x => cases x <;> rfl
    | _ => rfl
def callK (st : Bool) (m : M) : Option (FRes × Option DS) → Rs (Kd × D)
  | some (.ret .fr d, s) => .ok (.fr, d) (if st then { m with ds := s } else m)
  | some (.ret .ow d, s) => .ok (.ow, d) (if st then { m with ds := s } else m)
  | some (.exc c d, s) => .ex c d (if st then { m with ds := s } else m)
  | _ => .no
@[simp] theorem callK_fr {st : Bool} {z : Option DS} : callK st m (some (.ret .fr d, z)) = .ok (.fr, d) (if st then { m with ds := z } else m) := rfl
@[simp] theorem callK_ow {st : Bool} {z : Option DS} : callK st m (some (.ret .ow d, z)) = .ok (.ow, d) (if st then { m with ds := z } else m) := rfl
@[simp] theorem callK_ex {st : Bool} {c : Str} {z : Option DS} : callK st m (some (.exc c d, z)) = .ex c d (if st then { m with ds := z } else m) := rfl
@[simp] theorem callF_eq {fn : Fn} {ds : List D} : callF fn ds m = callK fn.hasSt m (fn.sem ds (if fn.hasSt then m.ds else none)) := by
  unfold callF callK
  generalize fn.sem ds (if fn.hasSt then m.ds else none) = z
  cases z with
  | none => rfl
  | some x =>
    obtain ⟨r, s⟩ := x
    cases r with
    | ret k d => cases k <;> rfl
    | exc c d => rfl
/-! the end of a def -/
def retV : Option Slot → Nat → M → Out
  | some (.th .ow d), i, m => .ret .ow d (m.put i .no)
  | some (.th .fr d), _, m => .ret .fr d m
  | _, _, _ => .no
@[simp] theorem retV_fr : retV (some (.th .fr d)) i m = .ret .fr d m := rfl
@[simp] theorem retV_ow : retV (some (.th .ow d)) i m = .ret .ow d (m.put i .no) := rfl
@[simp] theorem ex_retv : ex Φ (.ret (.var i)) m = retV m.ρ[i]? i m := by
  simp only [ex]
  generalize m.ρ[i]? = z
  cases z with
  | none => rfl
  | some x => cases x with
    | th k d => cases k <;> rfl
    | _ => rfl
@[simp] theorem ex_rop : ex Φ (.ret (.op o es)) m = (ev Φ (.op o es) m).out fun r m1 => .ret r.1 r.2 m1 := rfl
@[simp] theorem ex_rcst {c : C} : ex Φ (.ret (.cst c)) m = (ev Φ (.cst c) m).out fun r m1 => .ret r.1 r.2 m1 := rfl
@[simp] theorem ex_rcall {j : Nat} : ex Φ (.ret (.call j es)) m = (ev Φ (.call j es) m).out fun r m1 => .ret r.1 r.2 m1 := rfl
@[simp] theorem ex_rand : ex Φ (.ret (.andE a b)) m = (ev Φ (.andE a b) m).out fun r m1 => .ret r.1 r.2 m1 := rfl
@[simp] theorem ex_ror : ex Φ (.ret (.orE a b)) m = (ev Φ (.orE a b) m).out fun r m1 => .ret r.1 r.2 m1 := rfl
@[simp] theorem ex_rnot : ex Φ (.ret (.notE a)) m = (ev Φ (.notE a) m).out fun r m1 => .ret r.1 r.2 m1 := rfl
@[simp] theorem ex_rite : ex Φ (.ret (.ite t a b)) m = (ev Φ (.ite t a b) m).out fun r m1 => .ret r.1 r.2 m1 := rfl
@[simp] theorem ex_rlc {kk ie tg cond elt vs} : ex Φ (.ret (.lc kk ie tg cond elt vs)) m = (ev Φ (.lc kk ie tg cond elt vs) m).out fun r m1 => .ret r.1 r.2 m1 := rfl
@[simp] theorem ex_rbm {mm} : ex Φ (.ret (.bm mm a es)) m = (ev Φ (.bm mm a es) m).out fun r m1 => .ret r.1 r.2 m1 := rfl
@[simp] theorem ex_rslcL : ex Φ (.ret (.slcL a b)) m = (ev Φ (.slcL a b) m).out fun r m1 => .ret r.1 r.2 m1 := rfl
@[simp] theorem ex_rslcH : ex Φ (.ret (.slcH a b)) m = (ev Φ (.slcH a b) m).out fun r m1 => .ret r.1 r.2 m1 := rfl
@[simp] theorem ex_rslcB : ex Φ (.ret (.slcB a b t)) m = (ev Φ (.slcB a b t) m).out fun r m1 => .ret r.1 r.2 m1 := rfl
/-! comprehensions -/
theorem ev_lc {kk : Itk} {ie elt : E} {tg : Tgt} {cond : List E} {vs : List Nat} {xs : List D} {x : Kd × D} (hs : tg.sl.all (fun i => vs.contains i) = true) (hi : ev Φ ie m = .ok x m') (hw : walkD kk x.2 = some xs) (hn : vs.all m'.isNo = true) :
    ev Φ (.lc kk ie tg cond elt vs) m = (lcRun tg vs (evC Φ cond) (frzOf (ev Φ elt)) xs m' []).bind fun ys m2 => .ok (.ow, .lst ys) m2 := by
  simp only [ev, hs, if_true, frz_eq, hi, rs_ok, hw, hn]
theorem lc_ind {tg : Tgt} {vs : List Nat} {fc : M → Rs Bool} {fe : M → Rs D} {xs : List D} (I : Nat → List D → M → Prop)
    (hs : ∀ j d acc m, xs[j]? = some d → I j acc m → ∃ m1, tg.bind d m = some m1 ∧ ((∃ m2, fc m1 = .ok false m2 ∧ I (j + 1) acc (m2.unset vs)) ∨ ∃ m2 y m3, fc m1 = .ok true m2 ∧ fe m2 = .ok y m3 ∧ I (j + 1) (acc ++ [y]) (m3.unset vs)))
    {acc : List D} (h0 : I 0 acc m) (hl : acc.length + xs.length ≤ lim) : ∃ acc' m', lcRun tg vs fc fe xs m acc = .ok acc' m' ∧ I xs.length acc' m' := by
  suffices h : ∀ (ys : List D) (j : Nat) (acc : List D) (m : M), j + ys.length = xs.length → xs.drop j = ys → I j acc m → acc.length + ys.length ≤ lim → ∃ acc' m', lcRun tg vs fc fe ys m acc = .ok acc' m' ∧ I xs.length acc' m' from
    h xs 0 acc m (by omega) rfl h0 hl
  intro ys
  induction ys with
  | nil =>
    intro j acc m e _ h _
    have : j = xs.length := by simpa using e
    subst this
    exact ⟨acc, m, rfl, h⟩
  | cons y ys ih =>
    intro j acc m e ed h hl
    have hj : j < xs.length := by simp at e; omega
    have e2 := List.drop_eq_getElem_cons hj
    rw [ed] at e2
    obtain ⟨e3, e4⟩ := List.cons.inj e2
    obtain ⟨m1, b, h⟩ := hs j y acc m (by rw [List.getElem?_eq_getElem hj, e3]) h
    simp only [List.length_cons] at e hl
    rcases h with ⟨m2, h1, h2⟩ | ⟨m2, z, m3, h1, h2, h3⟩
    · obtain ⟨acc', m', r, q⟩ := ih (j + 1) acc (m2.unset vs) (by omega) e4.symm h2 (by omega)
      exact ⟨acc', m', by simp only [lcRun, b, h1]; exact r, q⟩
    · obtain ⟨acc', m', r, q⟩ := ih (j + 1) (acc ++ [z]) (m3.unset vs) (by omega) e4.symm h3 (by simp; omega)
      exact ⟨acc', m', by simp only [lcRun, b, h1, h2]; rw [if_pos (by omega)]; exact r, q⟩
/-- a comprehension that changes nothing -/
theorem lc_map {tg : Tgt} {vs : List Nat} {fc : M → Rs Bool} {fe : M → Rs D} {xs : List D} (p : D → Bool) (f : D → D) (mb : D → M)
    (hb : ∀ d ∈ xs, tg.bind d m = some (mb d) ∧ fc (mb d) = .ok (p d) (mb d) ∧ (p d = true → fe (mb d) = .ok (f d) (mb d)) ∧ (mb d).unset vs = m) :
    ∀ acc : List D, acc.length + xs.length ≤ lim → lcRun tg vs fc fe xs m acc = .ok (acc ++ (xs.filter p).map f) m := by
  induction xs with
  | nil => intro acc _; simp [lcRun]
  | cons x xs ih =>
    intro acc hl
    obtain ⟨b1, b2, b3, b4⟩ := hb x (by simp)
    have ih := ih fun d hd => hb d (by simp [hd])
    simp only [List.length_cons] at hl
    simp only [lcRun, b1, b2]
    cases hp : p x with
    | false => 
      simp only [b4]
      rw [ih acc (by omega), List.filter_cons_of_neg (by simp [hp])]
    | true =>
      simp only [b3 hp, b4]
      rw [if_pos (by omega), ih (acc ++ [f x]) (by simp; omega), List.filter_cons_of_pos hp]
      simp
/-! draws -/
theorem draw_spec {nsx sc : List Int} {c n : Int} (hs : sc ≠ []) (h0 : 0 < n) (h1 : n.natAbs.log2 < 9000) (h2 : 0 ≤ c) (h3 : c < 1000000000) :
    ∃ r ns', drawS [.int n] (some (.dr nsx sc c)) = some (.ret .fr (.int r), some (.dr ns' sc (c + 1))) ∧ 0 ≤ r ∧ r < n := by
  have e : drawS [.int n] (some (.dr nsx sc c)) = (drawI nsx sc c n).map fun r => (.ret .fr (.int r.1), some r.2) := if_pos ⟨h0, h1, h2, h3⟩
  rw [e]
  unfold drawI
  cases dropZ nsx with
  | cons x xs => exact ⟨x % n, x / n :: xs, rfl, Int.emod_nonneg _ (by omega), Int.emod_lt_of_pos _ h0⟩
  | nil =>
    have hl : 0 < sc.length := List.length_pos_iff.mpr hs
    have hj : ((c + 1) % (sc.length : Int)).toNat < sc.length := by
      have a := Int.emod_lt_of_pos (c + 1) (show (0 : Int) < sc.length by omega)
      have b := Int.emod_nonneg (c + 1) (show (sc.length : Int) ≠ 0 by omega)
      omega
    simp only [List.getElem?_eq_getElem hj]
    exact ⟨_, [], rfl, Int.emod_nonneg _ (by omega), Int.emod_lt_of_pos _ h0⟩
end
/-! what each operation is -/
@[simp] theorem cmp_add : Op.add.cmp = false := rfl
@[simp] theorem vm_add : Op.add.vm = false := rfl
@[simp] theorem cmp_sub : Op.sub.cmp = false := rfl
@[simp] theorem vm_sub : Op.sub.vm = false := rfl
@[simp] theorem cmp_mul : Op.mul.cmp = false := rfl
@[simp] theorem vm_mul : Op.mul.vm = false := rfl
@[simp] theorem cmp_fdv : Op.fdv.cmp = false := rfl
@[simp] theorem vm_fdv : Op.fdv.vm = false := rfl
@[simp] theorem cmp_mod : Op.mod.cmp = false := rfl
@[simp] theorem vm_mod : Op.mod.vm = false := rfl
@[simp] theorem cmp_pow : Op.pow.cmp = false := rfl
@[simp] theorem vm_pow : Op.pow.vm = false := rfl
@[simp] theorem cmp_neg : Op.neg.cmp = false := rfl
@[simp] theorem vm_neg : Op.neg.vm = false := rfl
@[simp] theorem cmp_eq : Op.eq.cmp = true := rfl
@[simp] theorem vm_eq : Op.eq.vm = false := rfl
@[simp] theorem cmp_ne : Op.ne.cmp = true := rfl
@[simp] theorem vm_ne : Op.ne.vm = false := rfl
@[simp] theorem cmp_lt : Op.lt.cmp = true := rfl
@[simp] theorem vm_lt : Op.lt.vm = false := rfl
@[simp] theorem cmp_le : Op.le.cmp = true := rfl
@[simp] theorem vm_le : Op.le.vm = false := rfl
@[simp] theorem cmp_gt : Op.gt.cmp = true := rfl
@[simp] theorem vm_gt : Op.gt.vm = false := rfl
@[simp] theorem cmp_ge : Op.ge.cmp = true := rfl
@[simp] theorem vm_ge : Op.ge.vm = false := rfl
@[simp] theorem cmp_isin : Op.isin.cmp = true := rfl
@[simp] theorem vm_isin : Op.isin.vm = false := rfl
@[simp] theorem cmp_nin : Op.nin.cmp = true := rfl
@[simp] theorem vm_nin : Op.nin.vm = false := rfl
@[simp] theorem cmp_isN : Op.isN.cmp = true := rfl
@[simp] theorem vm_isN : Op.isN.vm = false := rfl
@[simp] theorem cmp_notN : Op.notN.cmp = true := rfl
@[simp] theorem vm_notN : Op.notN.vm = false := rfl
@[simp] theorem cmp_ix : Op.ix.cmp = false := rfl
@[simp] theorem vm_ix : Op.ix.vm = false := rfl
@[simp] theorem cmp_rev : Op.rev.cmp = false := rfl
@[simp] theorem vm_rev : Op.rev.vm = false := rfl
@[simp] theorem cmp_len : Op.len.cmp = false := rfl
@[simp] theorem vm_len : Op.len.vm = false := rfl
@[simp] theorem cmp_abs : Op.abs.cmp = false := rfl
@[simp] theorem vm_abs : Op.abs.vm = false := rfl
@[simp] theorem cmp_int : Op.int.cmp = false := rfl
@[simp] theorem vm_int : Op.int.vm = false := rfl
@[simp] theorem cmp_str : Op.str.cmp = false := rfl
@[simp] theorem vm_str : Op.str.vm = false := rfl
@[simp] theorem cmp_list : Op.list.cmp = false := rfl
@[simp] theorem vm_list : Op.list.vm = false := rfl
@[simp] theorem cmp_tuple : Op.tuple.cmp = false := rfl
@[simp] theorem vm_tuple : Op.tuple.vm = false := rfl
@[simp] theorem cmp_max2 : Op.max2.cmp = false := rfl
@[simp] theorem vm_max2 : Op.max2.vm = false := rfl
@[simp] theorem cmp_all : Op.all.cmp = false := rfl
@[simp] theorem vm_all : Op.all.vm = false := rfl
@[simp] theorem cmp_any : Op.any.cmp = false := rfl
@[simp] theorem vm_any : Op.any.vm = false := rfl
@[simp] theorem cmp_mkl : Op.mkl.cmp = false := rfl
@[simp] theorem vm_mkl : Op.mkl.vm = true := rfl
@[simp] theorem cmp_mkt : Op.mkt.cmp = false := rfl
@[simp] theorem vm_mkt : Op.mkt.vm = true := rfl
@[simp] theorem cmp_isT {t : String} : (Op.isT t).cmp = false := rfl
@[simp] theorem vm_isT {t : String} : (Op.isT t).vm = false := rfl
@[simp] theorem cok_int {i : Int} : (C.int i).ok = true := rfl
@[simp] theorem cok_bl {i : Bool} : (C.bl i).ok = true := rfl
@[simp] theorem cok_non : C.non.ok = true := rfl
@[simp] theorem cok_str {x : Str} : (C.str x).ok = PyData.strOk x := rfl
@[simp] theorem cd_int {i : Int} : (C.int i).d = .int i := rfl
@[simp] theorem cd_bl {i : Bool} : (C.bl i).d = .bl i := rfl
@[simp] theorem cd_non : C.non.d = .non := rfl
@[simp] theorem cd_str {x : Str} : (C.str x).d = .str x := rfl
@[simp] theorem tr_bl {b : Bool} : trD (.bl b) = some b := rfl
@[simp] theorem tr_int {i : Int} : trD (.int i) = some (i != 0) := rfl
@[simp] theorem tr_lst {xs : List D} : trD (.lst xs) = some (!xs.isEmpty) := rfl
@[simp] theorem tr_tup {xs : List D} : trD (.tup xs) = some (!xs.isEmpty) := rfl
@[simp] theorem tr_non : trD .non = some false := rfl
@[simp] theorem od_add {i j : Int} : opD .add [.int i, .int j] = some (.fr, .int (i + j)) := rfl
@[simp] theorem od_sub {i j : Int} : opD .sub [.int i, .int j] = some (.fr, .int (i - j)) := rfl
@[simp] theorem od_lt {i j : Int} : opD .lt [.int i, .int j] = some (.fr, .bl (decide (i < j))) := rfl
@[simp] theorem od_le {i j : Int} : opD .le [.int i, .int j] = some (.fr, .bl (decide (i ≤ j))) := rfl
@[simp] theorem od_gt {i j : Int} : opD .gt [.int i, .int j] = some (.fr, .bl (decide (j < i))) := rfl
@[simp] theorem od_ge {i j : Int} : opD .ge [.int i, .int j] = some (.fr, .bl (decide (j ≤ i))) := rfl
@[simp] theorem od_neg {i : Int} : opD .neg [.int i] = some (.fr, .int (-i)) := rfl
@[simp] theorem od_llen {xs : List D} : opD .len [.lst xs] = some (.fr, .int xs.length) := rfl
@[simp] theorem od_tlen {xs : List D} : opD .len [.tup xs] = some (.fr, .int xs.length) := rfl
theorem od_slen {w : Str} (h : w.length ≤ lim) : opD .len [.str w] = some (.fr, .int w.length) := if_pos h
theorem od_sadd {x y : Str} (h : x.length + y.length ≤ lim) : opD .add [.str x, .str y] = some (.fr, .str (x ++ y)) := if_pos h
theorem od_mkl {ds : List D} (h : ds.length ≤ lim) : opD .mkl ds = some (.ow, .lst ds) := if_pos h
theorem od_mkt {ds : List D} (h : ds.length ≤ lim) : opD .mkt ds = some (.fr, .tup ds) := if_pos h
@[simp] theorem od_mkl0 : opD .mkl [] = some (.ow, .lst []) := od_mkl (by decide)
@[simp] theorem od_isT {d : D} {t : String} : opD (.isT t) [d] = (isTD t d).map fun c => (.fr, .bl c) := rfl
theorem od_isin {c : Nat} {z : Str} : opD .isin [.str ⟨#[c]⟩, .str z] = some (.fr, .bl (decide (c ∈ z.cps.toList))) := rfl
theorem od_nin {c : Nat} {z : Str} : opD .nin [.str ⟨#[c]⟩, .str z] = some (.fr, .bl (!decide (c ∈ z.cps.toList))) := rfl
theorem od_six {z : Str} {i : Int} (h : z.length ≤ lim) : opD .ix [.str z, .int i] = (atI z.cps.toList i).map fun c => (.fr, .str ⟨#[c]⟩) := if_pos h
@[simp] theorem od_lix {xs : List D} {i : Int} : opD .ix [.lst xs, .int i] = (atI xs i).map fun d => (.fr, d) := rfl
@[simp] theorem od_tix {xs : List D} {i : Int} : opD .ix [.tup xs, .int i] = (atI xs i).map fun d => (.fr, d) := rfl
theorem od_eq {a b : D} : opD .eq [a, b] = (eqD a b).map fun c => (.fr, .bl c) := rfl
theorem od_ne {a b : D} : opD .ne [a, b] = (eqD a b).map fun c => (.fr, .bl (!c)) := rfl
theorem eq_int {i j : Int} : eqD (.int i) (.int j) = some (i == j) := by
  show (if (PyData.int i).depth ≤ 60 ∧ (PyData.int j).depth ≤ 60 then some (PyData.eqv (.int i) (.int j)) else none) = _
  rw [if_pos ⟨by show 0 ≤ 60; omega, by show 0 ≤ 60; omega⟩]; rfl
theorem eq_bl {i j : Bool} : eqD (.bl i) (.bl j) = some (i == j) := by
  show (if (PyData.bool i).depth ≤ 60 ∧ (PyData.bool j).depth ≤ 60 then some (PyData.eqv (.bool i) (.bool j)) else none) = _
  rw [if_pos ⟨by show 0 ≤ 60; omega, by show 0 ≤ 60; omega⟩]; rfl
theorem pys_strs : ∀ ns : List Str, D.pys (ns.map D.str) = some (ns.map PyData.str)
  | [] => rfl
  | n :: ns => by
    show (match D.py (.str n), D.pys (ns.map D.str) with | some x, some xs => some (x :: xs) | _, _ => none) = _
    rw [pys_strs ns]; rfl
theorem depthAll_strs : ∀ ns : List Str, PyData.depthAll (ns.map PyData.str) = 0
  | [] => rfl
  | n :: ns => by
    show max (PyData.depth (.str n)) (PyData.depthAll (ns.map PyData.str)) = 0
    rw [depthAll_strs ns]; rfl
theorem eq_strs0 (ns : List Str) : eqD (.lst (ns.map D.str)) (.lst []) = some (ns.isEmpty) := by
  have h : D.py (.lst (ns.map D.str)) = some (.list (ns.map PyData.str)) := by
    show (D.pys (ns.map D.str)).map PyData.list = _
    rw [pys_strs]; rfl
  have d : (PyData.list (ns.map PyData.str)).depth ≤ 60 := by
    show PyData.depthAll (ns.map PyData.str) + 1 ≤ 60
    rw [depthAll_strs]; omega
  unfold eqD
  rw [h]
  show (if (PyData.list (ns.map PyData.str)).depth ≤ 60 ∧ (PyData.list []).depth ≤ 60 then some (PyData.eqv (.list (ns.map PyData.str)) (.list [])) else none) = _
  rw [if_pos ⟨d, by decide⟩]
  cases ns <;> rfl
theorem strs_map : ∀ ns : List Str, strsD (ns.map D.str) = some ns
  | [] => rfl
  | n :: ns => by
    show (strsD (ns.map D.str)).map (n :: ·) = _
    rw [strs_map ns]; rfl
theorem bs_map : ∀ ns : List Bool, bsD (ns.map D.bl) = some ns
  | [] => rfl
  | n :: ns => by
    show (bsD (ns.map D.bl)).map (n :: ·) = _
    rw [bs_map ns]; rfl
theorem od_all (ns : List Bool) : opD .all [.lst (ns.map D.bl)] = some (.fr, .bl (ns.all id)) := by
  show (bsD (ns.map D.bl)).map _ = _
  rw [bs_map]; rfl
theorem od_any (ns : List Bool) : opD .any [.lst (ns.map D.bl)] = some (.fr, .bl (ns.any id)) := by
  show (bsD (ns.map D.bl)).map _ = _
  rw [bs_map]; rfl
theorem od_join {a : Str} {ys : List Str} (h : (ys.map (·.length)).sum + ys.length * a.length ≤ 1000000) : bmD .join (.str a) [.lst (ys.map D.str)] = some (.fr, .str (Txt.join a ys)) := by
  simp only [bmD, strs_map]
  exact if_pos h
theorem isT_str {w : Str} : isTD "str" (.str w) = some true := by
  show kitB "str" "str" = some true
  decide +kernel
theorem isT_bool {w : Bool} : isTD "bool" (.bl w) = some true := by
  show kitB "bool" "bool" = some true
  decide +kernel
end VI

set_option Elab.async false
set_option linter.all false
set_option maxRecDepth 100000
set_option maxHeartbeats 4000000
namespace K01
open PySem PySem.Spec PyProof.Rows L2 VI
def top (i : Nat) : Stmt := PySem.Challenge.pw_anyfactors_k01_valid_names.main.body.getD i (.Pass ⟨0, 0, 0, 0⟩)
abbrev st_valid_name : Stmt := top 4
theorem sc_valid_name : FnScope ["text", "sign"] ["text"] (defScope st_valid_name) := ⟨rfl, rfl, rfl, by decide +kernel, rfl, by decide +kernel, by decide +kernel⟩
def b_valid_name : List S := [.ite (.orE (.notE (.op (.isT "str") [.var 0])) (.orE (.op .lt [.op .len [.var 0], .cst (.int 1)]) (.op .gt [.op .len [.var 0], .cst (.int 6)]))) [.ret (.cst (.bl false))] [], .ret (.andE (.op .isin [.op .ix [.var 0, .cst (.int 0)], .cst (.str "abcdefghijklmnopqrstuvwxyz")]) (.op .all [.lc .str (.var 0) (.nm 1) [] (.orE (.op .isin [.var 1, .cst (.str "abcdefghijklmnopqrstuvwxyz")]) (.op .isin [.var 1, .cst (.str "0123456789")])) [1]]))]
def fn_valid_name : Fn := fnOf (tb []) 2 [.vl] b_valid_name
theorem ok_valid_name {P : Program} {w : World} {g : Gm} {mg : Str → Option Value} {base : Heap} {fl : Str → Str} {f : Addr} {fd : FuncData} (F : Fun g.K "valid_name" "valid_name" st_valid_name f fd) (b_all : mg "all" = none) (b_isinstance : mg "isinstance" = none) (b_len : mg "len" = none) (b_str : mg "str" = none) {tc_DIGITS : Tok} (c_DIGITS : mg "DIGITS" = some (.str "0123456789" tc_DIGITS)) {tc_LETTERS : Tok} (c_LETTERS : mg "LETTERS" = some (.str "abcdefghijklmnopqrstuvwxyz" tc_LETTERS)) {tc_LONGEST : Tok} (c_LONGEST : mg "LONGEST" = some (.int 6 tc_LONGEST)) :
    FnOk P w g.K mg base (L2.CX P w) 1 f fd ["text"] (spF g fl fn_valid_name) :=
  have sc := sc_valid_name
  fn_ok F sc_valid_name rfl (by decide) rfl fun cdv A outer s H E hr =>
    have k0 : CxOk (cxOf (L2.CX P w) P w g.K mg base ["text", "sign"] "valid_name" (defScope st_valid_name) f cdv A outer s H E) g := cx_ok hr
    have tk : Takes (cxOf (L2.CX P w) P w g.K mg base ["text", "sign"] "valid_name" (defScope st_valid_name) f cdv A outer s H E) (fun cls d _ H => E cls d H) := takes_of rfl rfl rfl rfl
    have HP : PassesOwn (model P w) (cxOf (L2.CX P w) P w g.K mg base ["text", "sign"] "valid_name" (defScope st_valid_name) f cdv A outer s H E).A (cxOf (L2.CX P w) P w g.K mg base ["text", "sign"] "valid_name" (defScope st_valid_name) f cdv A outer s H E).env (cxOf (L2.CX P w) P w g.K mg base ["text", "sign"] "valid_name" (defScope st_valid_name) f cdv A outer s H E).xe := passes_of rfl
    (s_cons (s_if (t_pw (t_or (t_not (t_op k0 (w_isT k0 b_isinstance b_str (by decide +kernel) (w_var 0)))) (t_or (t_lt (w_len k0 b_len (w_cons (w_var 0) w_nil)) w_int) (t_or1 (t_gt (w_len k0 b_len (w_cons (w_var 0) w_nil)) (w_glob rfl c_LONGEST ⟨_, rfl⟩)))))) (s_cons (s_ret w_bl)
      s_nil) s_nil)
      (s_cons (s_ret (w_and k0 (w_in (w_ix k0 (w_var 0) w_int) (w_glob rfl c_LETTERS ⟨_, rfl⟩)) (w_one (w_all k0 b_all (w_cons (w_lc (own := [("sign", 1)]) k0 sc.nd (blkOk_by (N := ["text", "sign"]) (sc := (defScope st_valid_name)) (by decide +kernel)) (i_str (w_var 0)) (fun _ _ _ _ _ k1 => (g_nm 1 sc.nd)) (fun _ _ _ _ _ k1 => c_nil) (fun _ _ _ _ _ k1 => (w_or k1 (w_in (w_var 1) (w_glob rfl c_LETTERS ⟨_, rfl⟩)) (w_one (w_in (w_var 1) (w_glob rfl c_DIGITS ⟨_, rfl⟩)))))) w_nil)))))
      s_nil))

abbrev st__law_start : Stmt := top 6
theorem sc__law_start : FnScope startN ["_law_script"] (defScope st__law_start) := ⟨rfl, rfl, rfl, by decide +kernel, rfl, by decide +kernel, by decide +kernel⟩
theorem ok__law_start {P : Program} {w : World} {g : Gm} {mg : Str → Option Value} {base : Heap} {fl : Str → Str} {f : Addr} {fd : FuncData} (F : Fun g.K "_law_start" "_law_start" st__law_start f fd) (b_abs : mg "abs" = none) (b_list : mg "list" = none) :
    FnOk P w g.K mg base (L2.CX P w) 1 f fd ["_law_script"] (spStart g) :=
  have sc := sc__law_start
  start_ok (fl := fl) (Φ := fun _ => none) (W := W0) F sc__law_start rfl fun cdv A outer s H E hr =>
    have k0 : CxOk (cxOf (L2.CX P w) P w g.K mg base startN "_law_start" (defScope st__law_start) f cdv A outer s H E) g := cx_ok hr
    have HP : PassesOwn (model P w) (cxOf (L2.CX P w) P w g.K mg base startN "_law_start" (defScope st__law_start) f cdv A outer s H E).A (cxOf (L2.CX P w) P w g.K mg base startN "_law_start" (defScope st__law_start) f cdv A outer s H E).env (cxOf (L2.CX P w) P w g.K mg base startN "_law_start" (defScope st__law_start) f cdv A outer s H E).xe := passes_of rfl
    pss_cons (s_ret (w_lst (w_cons (w_lc (own := [("_law_cell", 1)]) k0 sc.nd (blkOk_by (N := startN) (sc := (defScope st__law_start)) (by decide +kernel)) (i_seq k0 (w_var 0)) (fun _ _ _ _ _ k1 => (g_nm 1 sc.nd)) (fun _ _ _ _ _ k1 => (c_one (t_ge (w_abs k1 b_abs (w_cons (w_var 1) w_nil)) (w_pow w_int w_int)))) (fun _ _ _ _ _ k1 => (w_abs k1 b_abs (w_cons (w_var 1) w_nil))))
      (w_cons (w_add k0 (w_list k0 b_list (w_cons (w_var 0) w_nil)) (w_lst (w_cons w_int w_nil))) (w_cons w_int w_nil))))) pss_nil

abbrev st__law_draw : Stmt := top 7
abbrev fn__law_draw : Fn := drawFn
theorem sc__law_draw : FnScope drawN ["_law_state", "_law_size"] (defScope st__law_draw) := ⟨rfl, rfl, rfl, by decide +kernel, rfl, by decide +kernel, by decide +kernel⟩
theorem ok__law_draw {P : Program} {w : World} {g : Gm} {mg : Str → Option Value} {base : Heap} {fl : Str → Str} {f : Addr} {fd : FuncData} (F : Fun g.K "_law_draw" "_law_draw" st__law_draw f fd) (b_int : mg "int" = none) (b_len : mg "len" = none) :
    FnOk P w g.K mg base (L2.CX P w) 1 f fd ["_law_state", "_law_size"] (spF g fl drawFn) :=
  have sc := sc__law_draw
  draw_ok (Φ := fun _ => none) (W := W0) F sc__law_draw rfl fun cdv A outer s H E hr =>
    have k0 : CxOk (cxOf (L2.CX P w) P w g.K mg base drawN "_law_draw" (defScope st__law_draw) f cdv A outer s H E) g := cx_ok hr
    have HP : PassesOwn (model P w) (cxOf (L2.CX P w) P w g.K mg base drawN "_law_draw" (defScope st__law_draw) f cdv A outer s H E).A (cxOf (L2.CX P w) P w g.K mg base drawN "_law_draw" (defScope st__law_draw) f cdv A outer s H E).env (cxOf (L2.CX P w) P w g.K mg base drawN "_law_draw" (defScope st__law_draw) f cdv A outer s H E).xe := passes_of rfl
    pss_cons (d_aug k0 rfl (Or.inl rfl) (by decide) (by decide))
    (pss_cons (ps_while HP (t_pw (t_and (t_ne k0 (w_ix k0 (w_var 0) w_int) (w_lst w_nil)) (t_and1 (t_eq k0 (w_ix k0 (w_ix k0 (w_var 0) w_int) w_int) w_int)))) (pss_cons (s_setIx 0 (w_var 0) w_int (w_slcL k0 (w_ix k0 (w_var 0) w_int) w_int)) pss_nil))
    (pss_cons (ps_if (t_ne k0 (w_ix k0 (w_var 0) w_int) (w_lst w_nil))
        (pss_cons (s_set 2 sc.nd (w_mod (w_toInt k0 b_int (w_cons (w_ix k0 (w_ix k0 (w_var 0) w_int) w_int) w_nil)) (w_var 1)))
        (pss_cons (d_set2 (w_fdv (w_ix k0 (w_ix k0 (w_var 0) w_int) w_int) (w_var 1)) (w_ix k0 (w_var 0) w_int) w_int)
        (pss_cons (s_ret (w_var 2)) pss_nil))) pss_nil)
    (pss_cons (s_set 3 sc.nd (w_mod (w_toInt k0 b_int (w_cons (w_ix k0 (w_ix k0 (w_var 0) w_int) (w_mod (w_toInt k0 b_int (w_cons (w_ix k0 (w_var 0) w_int) w_nil)) (w_len k0 b_len (w_cons (w_ix k0 (w_var 0) w_int) w_nil)))) w_nil)) w_int))
    (pss_cons (s_set 4 sc.nd (w_mod (w_toInt k0 b_int (w_cons (w_pow (w_add k0 (w_add k0 (w_mul (w_var 3) w_int) (w_mul (w_ix k0 (w_var 0) w_int) w_int)) w_int) w_int) w_nil)) w_int))
    (pss_cons (s_ret (w_mod (w_mod (w_toInt k0 b_int (w_cons (w_pow (w_add k0 (w_add k0 (w_mul (w_var 4) w_int) (w_mul (w_ix k0 (w_var 0) w_int) w_int)) w_int) w_int) w_nil)) w_int) (w_var 1))) pss_nil)))))

abbrev st__law_signs : Stmt := top 8
theorem sc__law_signs : FnScope ["_law_signs_here"] [] (defScope st__law_signs) := ⟨rfl, rfl, rfl, by decide +kernel, rfl, by decide +kernel, by decide +kernel⟩
def b__law_signs : List S := [.asg (.nm 0) (.cst (.str " !\"#$&'()*+,-./0123456789:;<=>?@ABCDEFGHIJKLMNOPQRSTUVWXYZ[\\]^_`")), .ret (.op .add [.var 0, .cst (.str "abcdefghijklmnopqrstuvwxyz{|}~\n")])]
def fn__law_signs : Fn := fnOf (tb []) 1 [] b__law_signs
theorem ok__law_signs {P : Program} {w : World} {g : Gm} {mg : Str → Option Value} {base : Heap} {fl : Str → Str} {f : Addr} {fd : FuncData} (F : Fun g.K "_law_signs" "_law_signs" st__law_signs f fd) :
    FnOk P w g.K mg base (L2.CX P w) 1 f fd [] (spF g fl fn__law_signs) :=
  have sc := sc__law_signs
  fn_ok F sc__law_signs rfl (by decide) rfl fun cdv A outer s H E hr =>
    have k0 : CxOk (cxOf (L2.CX P w) P w g.K mg base ["_law_signs_here"] "_law_signs" (defScope st__law_signs) f cdv A outer s H E) g := cx_ok hr
    have tk : Takes (cxOf (L2.CX P w) P w g.K mg base ["_law_signs_here"] "_law_signs" (defScope st__law_signs) f cdv A outer s H E) (fun cls d _ H => E cls d H) := takes_of rfl rfl rfl rfl
    have HP : PassesOwn (model P w) (cxOf (L2.CX P w) P w g.K mg base ["_law_signs_here"] "_law_signs" (defScope st__law_signs) f cdv A outer s H E).A (cxOf (L2.CX P w) P w g.K mg base ["_law_signs_here"] "_law_signs" (defScope st__law_signs) f cdv A outer s H E).env (cxOf (L2.CX P w) P w g.K mg base ["_law_signs_here"] "_law_signs" (defScope st__law_signs) f cdv A outer s H E).xe := passes_of rfl
    (s_cons (s_set 0 sc.nd w_str)
      (s_cons (s_ret (w_add k0 (w_var 0) w_str))
      s_nil))

abbrev st__law_good : Stmt := top 9
theorem sc__law_good : FnScope ["_law_word", "_law_letters", "_law_sign"] ["_law_word"] (defScope st__law_good) := ⟨rfl, rfl, rfl, by decide +kernel, rfl, by decide +kernel, by decide +kernel⟩
def b__law_good : List S := [.asg (.nm 1) (.cst (.str "abcdefghijklmnopqrstuvwxyz")), .ite (.orE (.op .lt [.op .len [.var 0], .cst (.int 1)]) (.orE (.op .gt [.op .len [.var 0], .cst (.int 6)]) (.op .nin [.op .ix [.var 0, .cst (.int 0)], .var 1]))) [.ret (.cst (.bl false))] [], .ret (.op .eq [.lc .str (.var 0) (.nm 2) [.op .nin [.var 2, .op .add [.var 1, .cst (.str "0123456789")]]] (.var 2) [2], .op .mkl []])]
def fn__law_good : Fn := fnOf (tb []) 3 [.vl] b__law_good
theorem ok__law_good {P : Program} {w : World} {g : Gm} {mg : Str → Option Value} {base : Heap} {fl : Str → Str} {f : Addr} {fd : FuncData} (F : Fun g.K "_law_good" "_law_good" st__law_good f fd) (b_len : mg "len" = none) :
    FnOk P w g.K mg base (L2.CX P w) 1 f fd ["_law_word"] (spF g fl fn__law_good) :=
  have sc := sc__law_good
  fn_ok F sc__law_good rfl (by decide) rfl fun cdv A outer s H E hr =>
    have k0 : CxOk (cxOf (L2.CX P w) P w g.K mg base ["_law_word", "_law_letters", "_law_sign"] "_law_good" (defScope st__law_good) f cdv A outer s H E) g := cx_ok hr
    have tk : Takes (cxOf (L2.CX P w) P w g.K mg base ["_law_word", "_law_letters", "_law_sign"] "_law_good" (defScope st__law_good) f cdv A outer s H E) (fun cls d _ H => E cls d H) := takes_of rfl rfl rfl rfl
    have HP : PassesOwn (model P w) (cxOf (L2.CX P w) P w g.K mg base ["_law_word", "_law_letters", "_law_sign"] "_law_good" (defScope st__law_good) f cdv A outer s H E).A (cxOf (L2.CX P w) P w g.K mg base ["_law_word", "_law_letters", "_law_sign"] "_law_good" (defScope st__law_good) f cdv A outer s H E).env (cxOf (L2.CX P w) P w g.K mg base ["_law_word", "_law_letters", "_law_sign"] "_law_good" (defScope st__law_good) f cdv A outer s H E).xe := passes_of rfl
    (s_cons (s_set 1 sc.nd w_str)
      (s_cons (s_if (t_pw (t_or (t_lt (w_len k0 b_len (w_cons (w_var 0) w_nil)) w_int) (t_or (t_gt (w_len k0 b_len (w_cons (w_var 0) w_nil)) w_int) (t_or1 (t_nin (w_ix k0 (w_var 0) w_int) (w_var 1)))))) (s_cons (s_ret w_bl)
      s_nil) s_nil)
      (s_cons (s_ret (w_eq k0 (w_lc (own := [("_law_sign", 2)]) k0 sc.nd (blkOk_by (N := ["_law_word", "_law_letters", "_law_sign"]) (sc := (defScope st__law_good)) (by decide +kernel)) (i_str (w_var 0)) (fun _ _ _ _ _ k1 => (g_nm 2 sc.nd)) (fun _ _ _ _ _ k1 => (c_one (t_nin (w_var 2) (w_add k1 (w_var 1) w_str)))) (fun _ _ _ _ _ k1 => (w_var 2))) (w_lst w_nil)))
      s_nil)))

abbrev st_law : Stmt := top 10
theorem sc_law : FnScope ["_law_script", "_law_state", "_law_plan", "_law_signs_here", "_law_chars", "_law_word", "_law_actual", "_law_k"] ["_law_script"] (defScope st_law) := ⟨rfl, rfl, rfl, by decide +kernel, rfl, by decide +kernel, by decide +kernel⟩
def b_law : List S := [.asg (.nm 2) (.call 0 [.var 1, .cst (.int 3)]), .asg (.nm 3) (.cst (.str "abcdefghijklmnopqrstuvwxyz0123456789")), .ite (.op .eq [.var 2, .cst (.int 0)]) [.asg (.nm 3) (.call 1 [])] [], .asg (.nm 4) (.lc .rng (.call 0 [.var 1, .op .ix [.op .mkl [.cst (.int 9), .cst (.int 9), .cst (.int 9), .cst (.int 80)], .call 0 [.var 1, .cst (.int 4)]]]) (.nm 7) [] (.op .ix [.var 3, .call 0 [.var 1, .op .len [.var 3]]]) [7]), .ite (.andE (.op .eq [.var 2, .cst (.int 2)]) (.op .ne [.var 4, .op .mkl []])) [.setIx 4 (.call 0 [.var 1, .op .len [.var 4]]) (.op .ix [.call 1 [], .call 0 [.var 1, .op .len [.call 1 []]]])] [], .asg (.nm 5) (.bm .join (.cst (.str "")) [.var 4]), .ite (.op .eq [.call 0 [.var 1, .cst (.int 6)], .cst (.int 0)]) [.asg (.nm 5) (.op .ix [.op .mkl [.op .add [.var 5, .cst (.str "\n")], .op .add [.var 5, .cst (.str " ")], .op .add [.cst (.str " "), .var 5], .op .add [.cst (.str "\n"), .var 5]], .call 0 [.var 1, .cst (.int 4)]])] [], .asg (.nm 6) (.call 2 [.var 5]), .ite (.orE (.notE (.op (.isT "bool") [.var 6])) (.op .ne [.var 6, .call 3 [.var 5]])) [.ret (.cst (.bl false))] [], .ret (.op .eq [.call 2 [.op .rev [.var 5]], .call 3 [.op .rev [.var 5]]])]
abbrev tb_law : Nat → Option Fn := tb [fn__law_draw, fn__law_signs, fn_valid_name, fn__law_good]
theorem ok_law {P : Program} {w : World} {g : Gm} {mg : Str → Option Value} {base : Heap} {fl : Str → Str} {f : Addr} {fd : FuncData} (F : Fun g.K "law" "law" st_law f fd) (S0 : Sok P w g mg base) (b_bool : mg "bool" = none) (b_isinstance : mg "isinstance" = none) (b_len : mg "len" = none) (b_range : mg "range" = none) (d__law_draw : Dok P w g mg base fl "_law_draw" 1 ["_law_state", "_law_size"] fn__law_draw) (d__law_signs : Dok P w g mg base fl "_law_signs" 1 [] fn__law_signs) (d_valid_name : Dok P w g mg base fl "valid_name" 1 ["text"] fn_valid_name) (d__law_good : Dok P w g mg base fl "_law_good" 1 ["_law_word"] fn__law_good) :
    FnOk P w g.K mg base (L2.CX P w) 2 f fd ["_law_script"] (spLaw g tb_law 6 b_law) :=
  have sc := sc_law
  law_ok (fl := fl) (N := ["_law_plan", "_law_signs_here", "_law_chars", "_law_word", "_law_actual", "_law_k"]) F sc_law rfl rfl fun cdv A outer s H E hr =>
    have k0 : CxOk (cxOf (L2.CX P w) P w g.K mg base ["_law_script", "_law_state", "_law_plan", "_law_signs_here", "_law_chars", "_law_word", "_law_actual", "_law_k"] "law" (defScope st_law) f cdv A outer s H E) g := cx_ok hr
    have tk : Takes (cxOf (L2.CX P w) P w g.K mg base ["_law_script", "_law_state", "_law_plan", "_law_signs_here", "_law_chars", "_law_word", "_law_actual", "_law_k"] "law" (defScope st_law) f cdv A outer s H E) (fun cls d _ H => E cls d H) := takes_of rfl rfl rfl rfl
    have HP : PassesOwn (model P w) (cxOf (L2.CX P w) P w g.K mg base ["_law_script", "_law_state", "_law_plan", "_law_signs_here", "_law_chars", "_law_word", "_law_actual", "_law_k"] "law" (defScope st_law) f cdv A outer s H E).A (cxOf (L2.CX P w) P w g.K mg base ["_law_script", "_law_state", "_law_plan", "_law_signs_here", "_law_chars", "_law_word", "_law_actual", "_law_k"] "law" (defScope st_law) f cdv A outer s H E).env (cxOf (L2.CX P w) P w g.K mg base ["_law_script", "_law_state", "_law_plan", "_law_signs_here", "_law_chars", "_law_word", "_law_actual", "_law_k"] "law" (defScope st_law) f cdv A outer s H E).xe := passes_of rfl
    pss_cons (s_start k0 S0 hr (by decide) tk sc.nd (w_cons (w_var 0) w_nil))
    (s_cons (s_set 2 sc.nd (w_dcall k0 d__law_draw (by decide) hr rfl tk (w_cons (w_var 1) (w_cons w_int w_nil))))
      (s_cons (s_set 3 sc.nd w_str)
      (s_cons (s_if (t_eq k0 (w_var 2) w_int) (s_cons (s_set 3 sc.nd (w_dcall0 k0 d__law_signs (by decide) hr rfl tk))
      s_nil) s_nil)
      (s_cons (s_setLc 4 (own := [("_law_k", 7)]) k0 sc.nd (blkOk_by (N := ["_law_script", "_law_state", "_law_plan", "_law_signs_here", "_law_chars", "_law_word", "_law_actual", "_law_k"]) (sc := (defScope st_law)) (by decide +kernel)) (i_rng b_range (w_dcall k0 d__law_draw (by decide) hr rfl tk (w_cons (w_var 1) (w_cons (w_ix k0 (w_lst (w_cons w_int (w_cons w_int (w_cons w_int (w_cons w_int w_nil))))) (w_dcall k0 d__law_draw (by decide) hr rfl tk (w_cons (w_var 1) (w_cons w_int w_nil)))) w_nil)))) (fun _ _ _ _ _ k1 => (g_nm 7 sc.nd)) (fun _ _ _ _ _ k1 => c_nil) (fun _ _ _ _ _ k1 => (w_ix k1 (w_var 3) (w_dcall k1 d__law_draw (by decide) hr rfl takes0 (w_cons (w_var 1) (w_cons (w_len k1 b_len (w_cons (w_var 3) w_nil)) w_nil))))) (sw_true rfl rfl rfl (by decide +kernel)))
      (s_cons (s_if (t_pw (t_and (t_eq k0 (w_var 2) w_int) (t_and1 (t_ne k0 (w_var 4) (w_lst w_nil))))) (s_cons (s_setIx 4 (w_var 4) (w_dcall k0 d__law_draw (by decide) hr rfl tk (w_cons (w_var 1) (w_cons (w_len k0 b_len (w_cons (w_var 4) w_nil)) w_nil))) (w_ix k0 (w_dcall0 k0 d__law_signs (by decide) hr rfl tk) (w_dcall k0 d__law_draw (by decide) hr rfl tk (w_cons (w_var 1) (w_cons (w_len k0 b_len (w_cons (w_dcall0 k0 d__law_signs (by decide) hr rfl tk) w_nil)) w_nil)))))
      s_nil) s_nil)
      (s_cons (s_set 5 sc.nd (w_join k0 w_str (w_var 4)))
      (s_cons (s_if (t_eq k0 (w_dcall k0 d__law_draw (by decide) hr rfl tk (w_cons (w_var 1) (w_cons w_int w_nil))) w_int) (s_cons (s_set 5 sc.nd (w_ix k0 (w_lst (w_cons (w_add k0 (w_var 5) w_str) (w_cons (w_add k0 (w_var 5) w_str) (w_cons (w_add k0 w_str (w_var 5)) (w_cons (w_add k0 w_str (w_var 5)) w_nil))))) (w_dcall k0 d__law_draw (by decide) hr rfl tk (w_cons (w_var 1) (w_cons w_int w_nil)))))
      s_nil) s_nil)
      (s_cons (s_set 6 sc.nd (w_dcall k0 d_valid_name (by decide) hr rfl tk (w_cons (w_var 5) w_nil)))
      (s_cons (s_if (t_pw (t_or (t_not (t_op k0 (w_isT k0 b_isinstance b_bool (by decide +kernel) (w_var 6)))) (t_or1 (t_ne k0 (w_var 6) (w_dcall k0 d__law_good (by decide) hr rfl tk (w_cons (w_var 5) w_nil)))))) (s_cons (s_ret w_bl)
      s_nil) s_nil)
      (s_cons (s_ret (w_eq k0 (w_dcallK1 k0 d_valid_name (by decide) hr rfl tk (w_rev k0 (w_var 5))) (w_dcall k0 d__law_good (by decide) hr rfl tk (w_cons (w_rev k0 (w_var 5)) w_nil))))
      s_nil))))))))))

theorem all_mk {l : PySem.W.OpenLaw} {w : World} {K : PySem.W.Frag} {h : Heap} {mg : Str → Option Value} {fa f1 f2 f3 f4 f5 f6 : Addr} (X : K.In h) (G : h.Ns mainGlobals mg) (hfa : mg "law" = some (.ref fa))
    {od1 an1 od2 an2 od3 an3 od4 an4 od5 an5 od6 an6 : Option Addr} {sl1 sl2 sl3 sl4 sl5 sl6 : Array (Option Value)} {oc1 kV1 dc1 pm1 cd1 ct1 oc2 kV2 dc2 pm2 cd2 ct2 oc3 kV3 dc3 pm3 cd3 ct3 oc4 kV4 dc4 pm4 cd4 ct4 oc5 kV5 dc5 pm5 cd5 ct5 oc6 kV6 dc6 pm6 cd6 ct6 : Value}
    {tc_DIGITS tc_LETTERS tc_LONGEST : Tok}
    (a1 : PySem.W.nsIn K mainGlobals "valid_name" = some (some (.ref f1))) (l1 : K.lookup f1 = some ⟨oc1, od1, .func (PySem.W.fnOf "valid_name" "valid_name" (defArgs st_valid_name) (defBody st_valid_name) (defScope st_valid_name) .none kV1 dc1 pm1 an1 cd1 ct1), sl1⟩) (c1 : PySem.W.codeIn K cd1 "valid_name" = true) (k1 : PySem.W.keepIn K (.ref f1) = true)
    (a2 : PySem.W.nsIn K mainGlobals "_law_start" = some (some (.ref f2))) (l2 : K.lookup f2 = some ⟨oc2, od2, .func (PySem.W.fnOf "_law_start" "_law_start" (defArgs st__law_start) (defBody st__law_start) (defScope st__law_start) .none kV2 dc2 pm2 an2 cd2 ct2), sl2⟩) (c2 : PySem.W.codeIn K cd2 "_law_start" = true) (k2 : PySem.W.keepIn K (.ref f2) = true)
    (a3 : PySem.W.nsIn K mainGlobals "_law_draw" = some (some (.ref f3))) (l3 : K.lookup f3 = some ⟨oc3, od3, .func (PySem.W.fnOf "_law_draw" "_law_draw" (defArgs st__law_draw) (defBody st__law_draw) (defScope st__law_draw) .none kV3 dc3 pm3 an3 cd3 ct3), sl3⟩) (c3 : PySem.W.codeIn K cd3 "_law_draw" = true) (k3 : PySem.W.keepIn K (.ref f3) = true)
    (a4 : PySem.W.nsIn K mainGlobals "_law_signs" = some (some (.ref f4))) (l4 : K.lookup f4 = some ⟨oc4, od4, .func (PySem.W.fnOf "_law_signs" "_law_signs" (defArgs st__law_signs) (defBody st__law_signs) (defScope st__law_signs) .none kV4 dc4 pm4 an4 cd4 ct4), sl4⟩) (c4 : PySem.W.codeIn K cd4 "_law_signs" = true) (k4 : PySem.W.keepIn K (.ref f4) = true)
    (a5 : PySem.W.nsIn K mainGlobals "_law_good" = some (some (.ref f5))) (l5 : K.lookup f5 = some ⟨oc5, od5, .func (PySem.W.fnOf "_law_good" "_law_good" (defArgs st__law_good) (defBody st__law_good) (defScope st__law_good) .none kV5 dc5 pm5 an5 cd5 ct5), sl5⟩) (c5 : PySem.W.codeIn K cd5 "_law_good" = true) (k5 : PySem.W.keepIn K (.ref f5) = true)
    (a6 : PySem.W.nsIn K mainGlobals "law" = some (some (.ref f6))) (l6 : K.lookup f6 = some ⟨oc6, od6, .func (PySem.W.fnOf "law" "law" (defArgs st_law) (defBody st_law) (defScope st_law) .none kV6 dc6 pm6 an6 cd6 ct6), sl6⟩) (c6 : PySem.W.codeIn K cd6 "law" = true) (k6 : PySem.W.keepIn K (.ref f6) = true)
    (z_abs : PySem.W.nsIn K mainGlobals "abs" = some none)
    (z_all : PySem.W.nsIn K mainGlobals "all" = some none)
    (z_bool : PySem.W.nsIn K mainGlobals "bool" = some none)
    (z_int : PySem.W.nsIn K mainGlobals "int" = some none)
    (z_isinstance : PySem.W.nsIn K mainGlobals "isinstance" = some none)
    (z_len : PySem.W.nsIn K mainGlobals "len" = some none)
    (z_list : PySem.W.nsIn K mainGlobals "list" = some none)
    (z_range : PySem.W.nsIn K mainGlobals "range" = some none)
    (z_str : PySem.W.nsIn K mainGlobals "str" = some none)
    (v_DIGITS : PySem.W.nsIn K mainGlobals "DIGITS" = some (some (.str "0123456789" tc_DIGITS)))
    (v_LETTERS : PySem.W.nsIn K mainGlobals "LETTERS" = some (some (.str "abcdefghijklmnopqrstuvwxyz" tc_LETTERS)))
    (v_LONGEST : PySem.W.nsIn K mainGlobals "LONGEST" = some (some (.int 6 tc_LONGEST)))
    : ∃ fd : FuncData, (∀ (s : Shared) (v : Value), BindsTo s fd ⟨[v], []⟩ [("_law_script", v)]) ∧ ∀ base : Heap, K.In base → base.Ns mainGlobals mg → FnOk l.prog w K mg base (L2.CX l.prog w) 2 fa fd ["_law_script"] (spLaw ⟨K, fun _ => 0⟩ tb_law 6 b_law) := by
  have e := hfa.symm.trans (PySem.W.mg_of X G a6)
  cases e
  have b_abs := PySem.W.mg_none_of X G z_abs
  have b_all := PySem.W.mg_none_of X G z_all
  have b_bool := PySem.W.mg_none_of X G z_bool
  have b_int := PySem.W.mg_none_of X G z_int
  have b_isinstance := PySem.W.mg_none_of X G z_isinstance
  have b_len := PySem.W.mg_none_of X G z_len
  have b_list := PySem.W.mg_none_of X G z_list
  have b_range := PySem.W.mg_none_of X G z_range
  have b_str := PySem.W.mg_none_of X G z_str
  have c_DIGITS := PySem.W.mg_of X G v_DIGITS
  have c_LETTERS := PySem.W.mg_of X G v_LETTERS
  have c_LONGEST := PySem.W.mg_of X G v_LONGEST
  have F1 := fun_mk (st := st_valid_name) l1 c1 k1
  have F2 := fun_mk (st := st__law_start) l2 c2 k2
  have F3 := fun_mk (st := st__law_draw) l3 c3 k3
  have F4 := fun_mk (st := st__law_signs) l4 c4 k4
  have F5 := fun_mk (st := st__law_good) l5 c5 k5
  have F6 := fun_mk (st := st_law) l6 c6 k6
  refine ⟨PySem.W.fnOf "law" "law" (defArgs st_law) (defBody st_law) (defScope st_law) .none kV6 dc6 pm6 an6 cd6 ct6, fun s v => .of_eq rfl, fun base _ _ => ?_⟩
  have d_valid_name : Dok l.prog w ⟨K, fun _ => 0⟩ mg base id "valid_name" 1 ["text"] fn_valid_name := ⟨f1, _, ok_valid_name (g := ⟨K, fun _ => 0⟩) F1 b_all b_isinstance b_len b_str c_DIGITS c_LETTERS c_LONGEST, PySem.W.mg_of X G a1, k1, F1.binds (ps := ["text"]) fun _ _ _ _ _ _ us hl => match us, hl with | [_], _ => rfl, fun nm e s w _ => by cases e; exact .of_eq rfl⟩
  have S0 : Sok l.prog w ⟨K, fun _ => 0⟩ mg base := ⟨f2, _, ok__law_start (fl := id) (g := ⟨K, fun _ => 0⟩) F2 b_abs b_list, PySem.W.mg_of X G a2, k2, F2.binds (ps := ["_law_script"]) fun _ _ _ _ _ _ us hl => match us, hl with | [_], _ => rfl⟩
  have d__law_draw : Dok l.prog w ⟨K, fun _ => 0⟩ mg base id "_law_draw" 1 ["_law_state", "_law_size"] fn__law_draw := ⟨f3, _, ok__law_draw (g := ⟨K, fun _ => 0⟩) F3 b_int b_len, PySem.W.mg_of X G a3, k3, F3.binds (ps := ["_law_state", "_law_size"]) fun _ _ _ _ _ _ us hl => match us, hl with | [_, _], _ => rfl, fun nm e s w _ => by cases e⟩
  have d__law_signs : Dok l.prog w ⟨K, fun _ => 0⟩ mg base id "_law_signs" 1 [] fn__law_signs := ⟨f4, _, ok__law_signs (g := ⟨K, fun _ => 0⟩) F4 , PySem.W.mg_of X G a4, k4, F4.binds (ps := []) fun _ _ _ _ _ _ us hl => match us, hl with | [], _ => rfl, fun nm e s w _ => by cases e⟩
  have d__law_good : Dok l.prog w ⟨K, fun _ => 0⟩ mg base id "_law_good" 1 ["_law_word"] fn__law_good := ⟨f5, _, ok__law_good (g := ⟨K, fun _ => 0⟩) F5 b_len, PySem.W.mg_of X G a5, k5, F5.binds (ps := ["_law_word"]) fun _ _ _ _ _ _ us hl => match us, hl with | [_], _ => rfl, fun nm e s w _ => by cases e; exact .of_eq rfl⟩
  exact ok_law (fl := id) (g := ⟨K, fun _ => 0⟩) F6 S0 b_bool b_isinstance b_len b_range d__law_draw d__law_signs d_valid_name d__law_good
end K01

set_option Elab.async false
set_option linter.all false
set_option maxRecDepth 100000
set_option maxHeartbeats 1000000
namespace K01
open PySem PySem.Spec PyProof.Rows L2 VI
abbrev LL : Str := "abcdefghijklmnopqrstuvwxyz"
abbrev DD : Str := "0123456789"
theorem okL : PyData.strOk LL = true := by decide +kernel
theorem okD : PyData.strOk DD = true := by decide +kernel
def good (c : Nat) : Bool := decide (c ∈ LL.cps.toList) || decide (c ∈ DD.cps.toList)
def okW (w : Str) : Bool := decide (1 ≤ w.length) && (decide (w.length ≤ 6) && ((match w.cps.toList with | [] => false | c :: _ => decide (c ∈ LL.cps.toList)) && w.cps.toList.all good))
def gD : D → D
  | .str x => .bl (x.cps.toList.all good)
  | d => d
def chD (c : Nat) : D := .str ⟨#[c]⟩
theorem len_eq (w : Str) : w.length = w.cps.toList.length := by simp [Str.length]
theorem valid_run (w : Str) (hw : w.length ≤ 1000) : exs (tb []) b_valid_name ⟨[.th .fr (.str w), .no], none⟩ = .ret .fr (.bl (okW w)) ⟨[.th .fr (.str w), .no], none⟩ := by
  have hl : w.length ≤ lim := by unfold lim; omega
  by_cases h1 : (w.length : Int) < 1
  · have e : okW w = false := by unfold okW; rw [decide_eq_false (by omega)]; rfl
    simp [b_valid_name, od_slen hl, isT_str, h1, e]
  by_cases h2 : 6 < (w.length : Int)
  · have e : okW w = false := by unfold okW; rw [decide_eq_false (p := w.length ≤ 6) (by omega)]; simp
    simp [b_valid_name, od_slen hl, isT_str, h1, h2, e]
  cases hc : w.cps.toList with
  | nil => rw [len_eq, hc] at h1; simp at h1
  | cons c r =>
    have e : okW w = (decide (c ∈ LL.cps.toList) && w.cps.toList.all good) := by
      unfold okW; rw [decide_eq_true (show 1 ≤ w.length by omega), decide_eq_true (show w.length ≤ 6 by omega), hc]; rfl
    have lc : ev (tb []) (.lc .str (.var 0) (.nm 1) [] (.orE (.op .isin [.var 1, .cst (.str LL)]) (.op .isin [.var 1, .cst (.str DD)])) [1]) ⟨[.th .fr (.str w), .no], none⟩ = .ok (.ow, .lst ((w.cps.toList.map good).map .bl)) ⟨[.th .fr (.str w), .no], none⟩ := by
      rw [ev_lc (by rfl) (x := (.fr, .str w)) (m' := ⟨[.th .fr (.str w), .no], none⟩) (by simp) (xs := w.cps.toList.map chD) rfl rfl]
      rw [lc_map (fun _ => true) gD (fun d => ⟨[.th .fr (.str w), .th .fr d], none⟩) (fun d hd => ?_) [] (by rw [List.length_map, ← len_eq]; simpa using hl)]
      · have : ∀ cs : List Nat, ((cs.map chD).filter fun _ => true).map gD = (cs.map good).map .bl := fun cs => by
          rw [List.filter_eq_self.mpr (by simp)]
          simp [gD, chD]
        rw [List.nil_append, this]; rfl
      · obtain ⟨c, _, rfl⟩ := List.mem_map.mp hd
        refine ⟨by simp [Tgt.bind], rfl, fun _ => ?_, by simp [M.unset]⟩
        by_cases hL : c ∈ LL.cps <;> simp [chD, od_isin, okL, okD, tri_b, gD, hL, good]
    by_cases hL : c ∈ LL.cps
    · have oa : opD .all [.lst (.bl (good c) :: r.map (D.bl ∘ good))] = some (.fr, .bl (good c && r.all good)) := by
        have := od_all ((c :: r).map good)
        simpa using this
      simp [b_valid_name, od_slen hl, isT_str, h1, h2, e, od_six hl, hc, at0, okL, okD, tri_b, od_isin, lc, hL, oa]
    · simp [b_valid_name, od_slen hl, isT_str, h1, h2, e, od_six hl, hc, at0, okL, okD, tri_b, od_isin, lc, hL]
def pD : D → Bool
  | .str x => !x.cps.toList.all good
  | _ => false
theorem good_in (c : Nat) : decide (c ∈ (LL ++ DD).cps.toList) = good c := by
  have e : (LL ++ DD).cps.toList = LL.cps.toList ++ DD.cps.toList := by
    show (LL.cps ++ DD.cps).toList = _
    simp
  rw [e]; unfold good
  simp only [List.mem_append, Bool.decide_or]
theorem good_run (w : Str) (hw : w.length ≤ 1000) : ∃ m, exs (tb []) b__law_good ⟨[.th .fr (.str w), .no, .no], none⟩ = .ret .fr (.bl (okW w)) m := by
  have hl : w.length ≤ lim := by unfold lim; omega
  by_cases h1 : (w.length : Int) < 1
  · have e : okW w = false := by unfold okW; rw [decide_eq_false (by omega)]; rfl
    simp [b__law_good, od_slen hl, h1, e, okL]
  by_cases h2 : 6 < (w.length : Int)
  · have e : okW w = false := by unfold okW; rw [decide_eq_false (p := w.length ≤ 6) (by omega)]; simp
    simp [b__law_good, od_slen hl, h1, h2, e, okL]
  cases hc : w.cps.toList with
  | nil => rw [len_eq, hc] at h1; simp at h1
  | cons c r =>
    have e : okW w = (decide (c ∈ LL.cps.toList) && w.cps.toList.all good) := by
      unfold okW; rw [decide_eq_true (show 1 ≤ w.length by omega), decide_eq_true (show w.length ≤ 6 by omega), hc]; rfl
    by_cases hL : c ∈ LL.cps
    · have lc : ev (tb []) (.lc .str (.var 0) (.nm 2) [.op .nin [.var 2, .op .add [.var 1, .cst (.str DD)]]] (.var 2) [2]) ⟨[.th .fr (.str w), .th .fr (.str LL), .no], none⟩ = .ok (.ow, .lst (((w.cps.toList.filter fun c => !good c).map fun c => (⟨#[c]⟩ : Str)).map .str)) ⟨[.th .fr (.str w), .th .fr (.str LL), .no], none⟩ := by
        rw [ev_lc (by rfl) (x := (.fr, .str w)) (m' := ⟨[.th .fr (.str w), .th .fr (.str LL), .no], none⟩) (by simp) (xs := w.cps.toList.map chD) rfl rfl]
        rw [lc_map pD id (fun d => ⟨[.th .fr (.str w), .th .fr (.str LL), .th .fr d], none⟩) (fun d hd => ?_) [] (by rw [List.length_map, ← len_eq]; simpa using hl)]
        · have : ∀ cs : List Nat, ((cs.map chD).filter pD).map id = ((cs.filter fun c => !good c).map fun c => (⟨#[c]⟩ : Str)).map .str := fun cs => by
            induction cs with
            | nil => rfl
            | cons x xs ih =>
              have e : pD (chD x) = !good x := by simp [pD, chD]
              cases hg : good x
              · rw [List.map_cons, List.filter_cons_of_pos (by rw [e, hg]; rfl), List.filter_cons_of_pos (by rw [hg]; rfl), List.map_cons, ih]; rfl
              · rw [List.map_cons, List.filter_cons_of_neg (by rw [e, hg]; decide), List.filter_cons_of_neg (by rw [hg]; decide), ih]
          rw [List.nil_append, this]; rfl
        · obtain ⟨c, _, rfl⟩ := List.mem_map.mp hd
          refine ⟨by simp [Tgt.bind], ?_, fun _ => by simp, by simp [M.unset]⟩
          have od : opD .nin [chD c, .str (LL ++ DD)] = some (.fr, .bl (!good c)) := by rw [← good_in]; rfl
          have ha : opD .add [.str LL, .str DD] = some (.fr, .str (LL ++ DD)) := od_sadd (by decide +kernel)
          show evT _ _ _ = _
          simp [okD, ha, od]
          simp [pD, chD]
      have oe : eqD (.lst (((c :: r).filter fun c => !good c).map (D.str ∘ fun c => (⟨#[c]⟩ : Str)))) (.lst []) = some (good c && r.all good) := by
        rw [← List.map_map, eq_strs0]
        have : ∀ cs : List Nat, ((cs.filter fun c => !good c).map fun c => (⟨#[c]⟩ : Str)).isEmpty = cs.all good := fun cs => by
          induction cs with
          | nil => rfl
          | cons x xs ih =>
            cases hg : good x
            · rw [List.filter_cons_of_pos (by rw [hg]; rfl)]; simp [hg]
            · rw [List.filter_cons_of_neg (by rw [hg]; decide), ih]; simp [hg]
        rw [this]; rfl
      simp [b__law_good, od_slen hl, h1, h2, e, od_six hl, hc, at0, okL, okD, od_nin, lc, hL, od_eq, oe]
    · simp [b__law_good, od_slen hl, h1, h2, e, od_six hl, hc, at0, okL, od_nin, hL]
/-! ### the law -/
theorem valid_sem (w : Str) (hw : w.length ≤ 1000) : fn_valid_name.sem [.str w] none = some (.ret .fr (.bl (okW w)), none) := by
  show runFn _ _ _ _ _ _ = _
  unfold runFn
  rw [show ({ ρ := startM 2 [.vl] [.str w], ds := none } : M) = ⟨[.th .fr (.str w), .no], none⟩ from rfl, valid_run w hw]
  rfl
theorem good_sem (w : Str) (hw : w.length ≤ 1000) : fn__law_good.sem [.str w] none = some (.ret .fr (.bl (okW w)), none) := by
  show runFn _ _ _ _ _ _ = _
  unfold runFn
  obtain ⟨m, e⟩ := good_run w hw
  rw [show ({ ρ := startM 3 [.vl] [.str w], ds := none } : M) = ⟨[.th .fr (.str w), .no, .no], none⟩ from rfl, e]
  rfl
abbrev S1 : Str := " !\"#$&'()*+,-./0123456789:;<=>?@ABCDEFGHIJKLMNOPQRSTUVWXYZ[\\]^_`"
abbrev S2 : Str := "abcdefghijklmnopqrstuvwxyz{|}~\n"
abbrev S3 : Str := "abcdefghijklmnopqrstuvwxyz0123456789"
abbrev SS : Str := S1 ++ S2
theorem okS1 : PyData.strOk S1 = true := by decide +kernel
theorem okS2 : PyData.strOk S2 = true := by decide +kernel
theorem okS3 : PyData.strOk S3 = true := by decide +kernel
theorem lenSS : SS.length = 94 + 1 := by decide +kernel
theorem lenS3 : S3.length = 36 := by decide +kernel
theorem signs_sem : fn__law_signs.sem [] none = some (.ret .fr (.str SS), none) := by
  show runFn _ _ _ _ _ _ = _
  unfold runFn
  have ha : opD .add [.str S1, .str S2] = some (.fr, .str SS) := od_sadd (by decide +kernel)
  have e : exs (tb []) b__law_signs ⟨[.no], none⟩ = .ret .fr (.str SS) ⟨[.th .fr (.str S1)], none⟩ := by
    simp [b__law_signs, okS1, okS2, ha]
  rw [show ({ ρ := startM 1 [] [], ds := none } : M) = ⟨[.no], none⟩ from rfl, e]
  rfl
theorem t0 : tb_law 0 = some drawFn := rfl
theorem t1 : tb_law 1 = some fn__law_signs := rfl
theorem t2 : tb_law 2 = some fn_valid_name := rfl
theorem t3 : tb_law 3 = some fn__law_good := rfl
theorem dps : drawFn.ps = [.st, .vl] := rfl
theorem dst : drawFn.hasSt = true := rfl
theorem dsem : drawFn.sem = drawS := rfl
theorem p1 : fn__law_signs.ps = [] := rfl
theorem q1 : fn__law_signs.hasSt = false := rfl
theorem p2 : fn_valid_name.ps = [.vl] := rfl
theorem q2 : fn_valid_name.hasSt = false := rfl
theorem p3 : fn__law_good.ps = [.vl] := rfl
theorem q3 : fn__law_good.hasSt = false := rfl
theorem cons_at (i : Nat) (h : i < b_law.length) (m : M) : exs tb_law (b_law.drop i) m = (ex tb_law b_law[i] m).bind (exs tb_law (b_law.drop (i + 1))) := by
  rw [List.drop_eq_getElem_cons h]; rfl
theorem rev_len (w : Str) : (⟨w.cps.toList.reverse.toArray⟩ : Str).length = w.length := by simp [Str.length]
theorem od_srev {w : Str} (h : w.length ≤ lim) : opD .rev [.str w] = some (.fr, .str ⟨w.cps.toList.reverse.toArray⟩) := if_pos h
theorem tail7 (w : Str) (hw : w.length ≤ 1000) (x2 x3 x4 : Slot) (x : Option DS) : ∃ m, exs tb_law (b_law.drop 7) ⟨[.no, .st, x2, x3, x4, .th .fr (.str w), .no, .no], x⟩ = .ret .fr (.bl true) m := by
  have hl : w.length ≤ lim := by unfold lim; omega
  have v2 := valid_sem ⟨w.cps.toList.reverse.toArray⟩ (by rw [rev_len]; exact hw)
  have g2 := good_sem ⟨w.cps.toList.reverse.toArray⟩ (by rw [rev_len]; exact hw)
  simp [b_law, ev_call t2, ev_call t3, p2, q2, p3, q3, valid_sem w hw, good_sem w hw, isT_bool, od_ne, od_eq, eq_bl, od_srev hl, v2, g2]
theorem okSp : PyData.strOk " " = true := by decide +kernel
theorem okNl : PyData.strOk "\n" = true := by decide +kernel
theorem okE : PyData.strOk "" = true := by decide +kernel
/-- the sixth statement, and what follows -/
theorem tail6 (w : Str) (hw : w.length ≤ 900) (x2 x3 x4 : Slot) {sc nsx : List Int} {c : Int} (hs : sc ≠ []) (h0 : 0 ≤ c) (h1 : c < 1000000) : ∃ m, exs tb_law (b_law.drop 6) ⟨[.no, .st, x2, x3, x4, .th .fr (.str w), .no, .no], some (.dr nsx sc c)⟩ = .ret .fr (.bl true) m := by
  obtain ⟨r, n1, e1, r0, r1⟩ := draw_spec (nsx := nsx) (n := 6) hs (by decide) (by decide +kernel) h0 (by omega)
  obtain ⟨q, n2, e2, q0, q1'⟩ := draw_spec (nsx := n1) (n := 4) hs (by decide) (by decide +kernel) (show 0 ≤ c + 1 by omega) (by omega)
  rw [cons_at 6 (by decide)]
  have add1 : ∀ x y : Str, x.length + y.length ≤ 1000 → opD .add [.str x, .str y] = some (.fr, .str (x ++ y)) := fun x y h => od_sadd (by unfold lim; omega)
  have la : ∀ x y : Str, (x ++ y).length = x.length + y.length := fun x y => Array.size_append
  have l1 : ("\n" : Str).length = 1 := by decide +kernel
  have l2 : (" " : Str).length = 1 := by decide +kernel
  have a1 := add1 w "\n" (by omega)
  have a2 := add1 w " " (by omega)
  have a3 := add1 " " w (by omega)
  have a4 := add1 "\n" w (by omega)
  have mk : ∀ a b c d : D, opD .mkl [a, b, c, d] = some (.ow, .lst [a, b, c, d]) := fun a b c d => od_mkl (by show 4 ≤ lim; decide)
  by_cases hr : r = 0
  · subst hr
    suffices h : ∃ v : Str, v.length ≤ 1000 ∧ atI [D.str (w ++ "\n"), .str (w ++ " "), .str (" " ++ w), .str ("\n" ++ w)] q = some (.str v) by
      obtain ⟨v, hv, ha⟩ := h
      have ex6 : ex tb_law b_law[6] ⟨[.no, .st, x2, x3, x4, .th .fr (.str w), .no, .no], some (.dr nsx sc c)⟩ = .nx ⟨[.no, .st, x2, x3, x4, .th .fr (.str v), .no, .no], some (.dr n2 sc (c + 1 + 1))⟩ := by
        simp [b_law, ev_call t0, dps, dst, dsem, e1, e2, od_eq, VI.eq_int, a1, a2, a3, a4, mk, okSp, okNl, ha]
      rw [ex6]
      exact tail7 v hv _ _ _ _
    rcases (show q = 0 ∨ q = 1 ∨ q = 2 ∨ q = 3 by omega) with rfl | rfl | rfl | rfl
    · exact ⟨_, by rw [la, l1]; omega, rfl⟩
    · exact ⟨_, by rw [la, l2]; omega, rfl⟩
    · exact ⟨_, by rw [la, l2]; omega, rfl⟩
    · exact ⟨_, by rw [la, l1]; omega, rfl⟩
  · have ex6 : ex tb_law b_law[6] ⟨[.no, .st, x2, x3, x4, .th .fr (.str w), .no, .no], some (.dr nsx sc c)⟩ = .nx ⟨[.no, .st, x2, x3, x4, .th .fr (.str w), .no, .no], some (.dr n1 sc (c + 1))⟩ := by
      simp [b_law, ev_call t0, dps, dst, dsem, e1, od_eq, VI.eq_int, hr]
    rw [ex6]
    exact tail7 w (by omega) _ _ _ _
theorem join_len (cs : List Nat) : (Txt.join "" (cs.map fun c => (⟨#[c]⟩ : Str))).length = cs.length := by
  have h := PySem.size_glued "" (cs.map fun c => (⟨#[c]⟩ : Str))
  have e0 : ("" : Str).length = 0 := by decide +kernel
  have e1 : ((cs.map fun c => (⟨#[c]⟩ : Str)).map (·.length)).sum = cs.length := by
    clear h
    induction cs with
    | nil => rfl
    | cons x xs ih => simp only [List.map_cons, List.sum_cons, ih]; show 1 + _ = _ + 1; omega
  show (Builtin.Str.glued "" _).length = _
  rw [h, e0, e1]; simp
theorem tail5 (cs : List Nat) (hw : cs.length ≤ 100) (x2 x3 : Slot) {sc nsx : List Int} {c : Int} (hs : sc ≠ []) (h0 : 0 ≤ c) (h1 : c < 1000000) : ∃ m, exs tb_law (b_law.drop 5) ⟨[.no, .st, x2, x3, .th .ow (.lst (cs.map chD)), .no, .no, .no], some (.dr nsx sc c)⟩ = .ret .fr (.bl true) m := by
  rw [cons_at 5 (by decide)]
  have e0 : ("" : Str).length = 0 := by decide +kernel
  have e1 : ((cs.map fun c => (⟨#[c]⟩ : Str)).map (·.length)).sum = cs.length := by
    clear hw
    induction cs with
    | nil => rfl
    | cons x xs ih => simp only [List.map_cons, List.sum_cons, ih]; show 1 + _ = _ + 1; omega
  have oj := od_join (a := "") (ys := cs.map fun c => (⟨#[c]⟩ : Str)) (by rw [e0, e1]; simp; omega)
  rw [List.map_map] at oj
  have ex5 : ex tb_law b_law[5] ⟨[.no, .st, x2, x3, .th .ow (.lst (cs.map chD)), .no, .no, .no], some (.dr nsx sc c)⟩ = .nx ⟨[.no, .st, x2, x3, .th .ow (.lst (cs.map chD)), .th .fr (.str (Txt.join "" (cs.map fun c => (⟨#[c]⟩ : Str)))), .no, .no], some (.dr nsx sc c)⟩ := by
    have oj' : bmD .join (.str "") [.lst (cs.map chD)] = some (.fr, .str (Txt.join "" (cs.map fun c => (⟨#[c]⟩ : Str)))) := oj
    simp [b_law, okE, oj']
  rw [ex5]
  exact tail6 _ (by rw [join_len]; omega) _ _ _ hs h0 h1
theorem eq_chs (cs : List Nat) : eqD (.lst (cs.map chD)) (.lst []) = some cs.isEmpty := by
  have h := eq_strs0 (cs.map fun c => (⟨#[c]⟩ : Str))
  rw [List.map_map] at h
  have h' : eqD (.lst (cs.map chD)) (.lst []) = some (cs.map fun c => (⟨#[c]⟩ : Str)).isEmpty := h
  rw [h']; cases cs <;> rfl
theorem ev_signs (m : M) : ev tb_law (.call 1 []) m = .ok (.fr, .str SS) m := by
  simp [ev_call t1, p1, q1, signs_sem]
theorem ev_draw {e : E} {m : M} {x2 x3 x4 x5 x6 x7 : Slot} {nsx sc : List Int} {c n : Int} {k : Kd} (he : ev tb_law e m = .ok (k, .int n) ⟨[.no, .st, x2, x3, x4, x5, x6, x7], some (.dr nsx sc c)⟩) (hm : m.ρ[1]? = some .st)
    (hs : sc ≠ []) (h0 : 0 < n) (hn : n < 1000) (h2 : 0 ≤ c) (h3 : c < 1000000000) : ∃ r ns', ev tb_law (.call 0 [.var 1, e]) m = .ok (.fr, .int r) ⟨[.no, .st, x2, x3, x4, x5, x6, x7], some (.dr ns' sc (c + 1))⟩ ∧ 0 ≤ r ∧ r < n := by
  have hl : n.natAbs.log2 < 9000 := by
    have : n.natAbs < 2 ^ 9000 := Nat.lt_of_lt_of_le (show n.natAbs < 2 ^ 10 by omega) (Nat.pow_le_pow_right (by decide) (by decide))
    by_cases z : n.natAbs = 0
    · rw [z]; decide
    · exact (Nat.log2_lt z).mpr this
  obtain ⟨r, ns', e1, a, b⟩ := draw_spec (nsx := nsx) (n := n) hs h0 hl h2 h3
  exact ⟨r, ns', by simp [ev_call t0, dps, dst, dsem, he, hm, e1], a, b⟩
theorem at_of {α : Type} {xs : List α} {r : Int} (h0 : 0 ≤ r) (h1 : r < xs.length) : ∃ x, atI xs r = some x := by
  have hj : r.toNat < xs.length := by omega
  refine ⟨xs[r.toNat], ?_⟩
  have e : ((r.toNat : Nat) : Int) = r := Int.toNat_of_nonneg h0
  have z := atI_nat (List.getElem?_eq_getElem hj)
  rw [e] at z; exact z
theorem set_of {xs : List D} {r : Int} (d : D) (h0 : 0 ≤ r) (h1 : r < xs.length) : setD xs r d = some (xs.set r.toNat d) := by
  unfold setD ixN
  rw [if_pos h0, if_pos h1]; rfl
theorem tail4 (cs : List Nat) (hw : cs.length ≤ 100) (p : Int) (x3 : Slot) {sc nsx : List Int} {c : Int} (hs : sc ≠ []) (h0 : 0 ≤ c) (h1 : c < 900000) : ∃ m, exs tb_law (b_law.drop 4) ⟨[.no, .st, .th .fr (.int p), x3, .th .ow (.lst (cs.map chD)), .no, .no, .no], some (.dr nsx sc c)⟩ = .ret .fr (.bl true) m := by
  rw [cons_at 4 (by decide)]
  by_cases hp : p = 2
  · cases hc : cs with
    | nil =>
      have ex4 : ex tb_law b_law[4] ⟨[.no, .st, .th .fr (.int p), x3, .th .ow (.lst (([] : List Nat).map chD)), .no, .no, .no], some (.dr nsx sc c)⟩ = .nx ⟨[.no, .st, .th .fr (.int p), x3, .th .ow (.lst (([] : List Nat).map chD)), .no, .no, .no], some (.dr nsx sc c)⟩ := by
        have z := eq_chs []
        simp only [List.map_nil] at z
        simp [b_law, od_eq, od_ne, VI.eq_int, hp, z]
      rw [ex4]
      exact tail5 [] (by simp) _ _ hs h0 (by omega)
    | cons c0 r0 =>
      rw [← hc]
      have hne : cs.isEmpty = false := by rw [hc]; rfl
      have hlen : 0 < cs.length := by rw [hc]; simp
      have lss : opD .len [.str SS] = some (.fr, .int (94 + 1)) := by rw [od_slen (by rw [lenSS]; decide), lenSS]; rfl
      have hS : ev tb_law (.op .len [.call 1 []]) ⟨[.no, .st, .th .fr (.int p), x3, .th .ow (.lst (cs.map chD)), .no, .no, .no], some (.dr nsx sc c)⟩ = .ok (.fr, .int (94 + 1)) ⟨[.no, .st, .th .fr (.int p), x3, .th .ow (.lst (cs.map chD)), .no, .no, .no], some (.dr nsx sc c)⟩ := by
        simp [ev_signs, lss]
      obtain ⟨q, n1, e1, q0, q1'⟩ := ev_draw hS rfl hs (by decide) (by decide) h0 (by omega)
      obtain ⟨ch, hch⟩ := at_of (xs := SS.cps.toList) q0 (by rw [← len_eq, lenSS]; exact q1')
      have ix : opD .ix [.str SS, .int q] = some (.fr, chD ch) := by rw [od_six (by rw [lenSS]; decide), hch]; rfl
      have hL : ev tb_law (.op .len [.var 4]) ⟨[.no, .st, .th .fr (.int p), x3, .th .ow (.lst (cs.map chD)), .no, .no, .no], some (.dr n1 sc (c + 1))⟩ = .ok (.fr, .int cs.length) ⟨[.no, .st, .th .fr (.int p), x3, .th .ow (.lst (cs.map chD)), .no, .no, .no], some (.dr n1 sc (c + 1))⟩ := by
        simp
      obtain ⟨s, n2, e2, s0, s1⟩ := ev_draw hL rfl hs (by omega) (by omega) (show 0 ≤ c + 1 by omega) (by omega)
      have st := ex_setIx (Φ := tb_law) (i := 4) (e := .op .ix [.call 1 [], .call 0 [.var 1, .op .len [.call 1 []]]]) (ix := .call 0 [.var 1, .op .len [.var 4]]) (m := ⟨[.no, .st, .th .fr (.int p), x3, .th .ow (.lst (cs.map chD)), .no, .no, .no], some (.dr nsx sc c)⟩) (r := (.fr, chD ch))
        (by simp [ev_signs, e1, ix]) rfl e2 rfl (set_of _ s0 (by simpa using s1))
      have ex4 : ex tb_law b_law[4] ⟨[.no, .st, .th .fr (.int p), x3, .th .ow (.lst (cs.map chD)), .no, .no, .no], some (.dr nsx sc c)⟩ = .nx ⟨[.no, .st, .th .fr (.int p), x3, .th .ow (.lst ((cs.set s.toNat ch).map chD)), .no, .no, .no], some (.dr n2 sc (c + 1 + 1))⟩ := by
        simp [b_law, od_eq, od_ne, VI.eq_int, hp, eq_chs, hne]
        subst hp
        rw [st]
        simp [List.map_set]
      rw [ex4]
      exact tail5 _ (by simpa using hw) _ _ hs (by omega) (by omega)
  · have ex4 : ex tb_law b_law[4] ⟨[.no, .st, .th .fr (.int p), x3, .th .ow (.lst (cs.map chD)), .no, .no, .no], some (.dr nsx sc c)⟩ = .nx ⟨[.no, .st, .th .fr (.int p), x3, .th .ow (.lst (cs.map chD)), .no, .no, .no], some (.dr nsx sc c)⟩ := by
      simp [b_law, od_eq, VI.eq_int, hp]
    rw [ex4]
    exact tail5 cs hw _ _ hs h0 (by omega)
theorem tail3 (sg : Str) (g0 : 0 < sg.length) (g1 : sg.length < 900) (p : Int) {sc nsx : List Int} {c : Int} (hs : sc ≠ []) (h0 : 0 ≤ c) (h1 : c < 800000) : ∃ m, exs tb_law (b_law.drop 3) ⟨[.no, .st, .th .fr (.int p), .th .fr (.str sg), .no, .no, .no, .no], some (.dr nsx sc c)⟩ = .ret .fr (.bl true) m := by
  rw [cons_at 3 (by decide)]
  have hl : sg.length ≤ lim := by unfold lim; omega
  have mk : ∀ a b c d : D, opD .mkl [a, b, c, d] = some (.ow, .lst [a, b, c, d]) := fun a b c d => od_mkl (by show 4 ≤ lim; decide)
  obtain ⟨q, n1, e1, q0, q1'⟩ := ev_draw (e := .cst (.int 4)) (m := ⟨[.no, .st, .th .fr (.int p), .th .fr (.str sg), .no, .no, .no, .no], some (.dr nsx sc c)⟩) (n := 4) rfl rfl hs (by decide) (by decide) h0 (by omega)
  obtain ⟨v, hv, v0, v1⟩ : ∃ v : Int, atI [D.int 9, .int 9, .int 9, .int 80] q = some (.int v) ∧ 0 < v ∧ v < 100 := by
    rcases (show q = 0 ∨ q = 1 ∨ q = 2 ∨ q = 3 by omega) with rfl | rfl | rfl | rfl
    · exact ⟨9, rfl, by decide, by decide⟩
    · exact ⟨9, rfl, by decide, by decide⟩
    · exact ⟨9, rfl, by decide, by decide⟩
    · exact ⟨80, rfl, by decide, by decide⟩
  have hx : ev tb_law (.op .ix [.op .mkl [.cst (.int 9), .cst (.int 9), .cst (.int 9), .cst (.int 80)], .call 0 [.var 1, .cst (.int 4)]]) ⟨[.no, .st, .th .fr (.int p), .th .fr (.str sg), .no, .no, .no, .no], some (.dr nsx sc c)⟩ = .ok (.fr, .int v) ⟨[.no, .st, .th .fr (.int p), .th .fr (.str sg), .no, .no, .no, .no], some (.dr n1 sc (c + 1))⟩ := by
    simp [mk, e1, hv]
  obtain ⟨R, n2, e2, r0, r1⟩ := ev_draw hx rfl hs v0 (by omega) (show 0 ≤ c + 1 by omega) (by omega)
  have hw : walkD .rng (.int R) = some ((List.range R.toNat).map fun (i : Nat) => D.int (0 + (i : Int))) := if_pos ⟨by omega, by omega⟩
  obtain ⟨acc, m', el, cs, n3, rfl, hcs, rfl⟩ := lc_ind (tg := .nm 7) (vs := [7]) (fc := evC tb_law []) (fe := frzOf (ev tb_law (.op .ix [.var 3, .call 0 [.var 1, .op .len [.var 3]]]))) (xs := (List.range R.toNat).map fun (i : Nat) => D.int (0 + (i : Int))) (acc := [])
    (m := ⟨[.no, .st, .th .fr (.int p), .th .fr (.str sg), .no, .no, .no, .no], some (.dr n2 sc (c + 1 + 1))⟩)
    (fun j acc m => ∃ (cs : List Nat) (n' : List Int), acc = cs.map chD ∧ cs.length = j ∧ m = ⟨[.no, .st, .th .fr (.int p), .th .fr (.str sg), .no, .no, .no, .no], some (.dr n' sc (c + 1 + 1 + j))⟩)
    (fun j d acc m hd ⟨cs, n', e1, e2, e3⟩ => by
      subst e1 e3
      have hj : j < R.toNat := by
        have := (List.getElem?_eq_some_iff.mp hd).1
        simpa using this
      have hL : ev tb_law (.op .len [.var 3]) ⟨[.no, .st, .th .fr (.int p), .th .fr (.str sg), .no, .no, .no, .th .fr d], some (.dr n' sc (c + 1 + 1 + j))⟩ = .ok (.fr, .int sg.length) ⟨[.no, .st, .th .fr (.int p), .th .fr (.str sg), .no, .no, .no, .th .fr d], some (.dr n' sc (c + 1 + 1 + j))⟩ := by
        simp [od_slen hl]
      obtain ⟨s, n4, e4, s0, s1⟩ := ev_draw hL rfl hs (by omega) (by omega) (show 0 ≤ c + 1 + 1 + (j : Int) by omega) (by omega)
      obtain ⟨ch, hch⟩ := at_of (xs := sg.cps.toList) s0 (by rw [← len_eq]; exact s1)
      have ix : opD .ix [.str sg, .int s] = some (.fr, chD ch) := by rw [od_six hl, hch]; rfl
      refine ⟨⟨[.no, .st, .th .fr (.int p), .th .fr (.str sg), .no, .no, .no, .th .fr d], some (.dr n' sc (c + 1 + 1 + j))⟩, by simp [Tgt.bind], .inr ⟨_, chD ch, ⟨[.no, .st, .th .fr (.int p), .th .fr (.str sg), .no, .no, .no, .th .fr d], some (.dr n4 sc (c + 1 + 1 + j + 1))⟩, rfl, by simp [e4, ix], cs ++ [ch], n4, by simp, by simp [e2], ?_⟩⟩
      simp [M.unset]
      omega)
    ⟨[], n2, rfl, rfl, by simp⟩ (by simp; unfold lim; omega)
  have ex3 : ex tb_law b_law[3] ⟨[.no, .st, .th .fr (.int p), .th .fr (.str sg), .no, .no, .no, .no], some (.dr nsx sc c)⟩ = .nx ⟨[.no, .st, .th .fr (.int p), .th .fr (.str sg), .th .ow (.lst (cs.map chD)), .no, .no, .no], some (.dr n3 sc (c + 1 + 1 + (((List.range R.toNat).map fun (i : Nat) => D.int (0 + (i : Int))).length : Nat)))⟩ := by
    have z := ev_lc (Φ := tb_law) (kk := .rng) (cond := []) (elt := .op .ix [.var 3, .call 0 [.var 1, .op .len [.var 3]]]) (tg := .nm 7) (vs := [7]) (by rfl) e2 hw (by rfl)
    rw [el] at z
    show (ev tb_law (.lc .rng _ _ _ _ _) _).out _ = _
    rw [z]
    simp
  rw [ex3]
  refine tail4 cs (by rw [hcs]; simp; omega) p _ hs ?_ ?_
  · omega
  · rw [List.length_map, List.length_range]; omega
theorem pure_law (ns : List Int) (hl : ns.length ≤ 63) : lawRun tb_law 6 b_law ns := by
  have hs : ns ++ [5] ≠ [] := by simp
  show ∃ m, exs tb_law (b_law.drop 0) ⟨[.no, .st, .no, .no, .no, .no, .no, .no], some (.dr (bigI ns) (ns ++ [5]) 0)⟩ = .ret .fr (.bl true) m
  obtain ⟨p, n1, e1, p0, p1⟩ := ev_draw (e := .cst (.int 3)) (m := ⟨[.no, .st, .no, .no, .no, .no, .no, .no], some (.dr (bigI ns) (ns ++ [5]) 0)⟩) (n := 3) rfl rfl hs (by decide) (by decide) (by decide) (by decide)
  have ex0 : ex tb_law b_law[0] ⟨[.no, .st, .no, .no, .no, .no, .no, .no], some (.dr (bigI ns) (ns ++ [5]) 0)⟩ = .nx ⟨[.no, .st, .th .fr (.int p), .no, .no, .no, .no, .no], some (.dr n1 (ns ++ [5]) (0 + 1))⟩ := by
    show (ev tb_law (.call 0 [.var 1, .cst (.int 3)]) _).out _ = _
    rw [e1]; rfl
  have ex1 : ex tb_law b_law[1] ⟨[.no, .st, .th .fr (.int p), .no, .no, .no, .no, .no], some (.dr n1 (ns ++ [5]) (0 + 1))⟩ = .nx ⟨[.no, .st, .th .fr (.int p), .th .fr (.str S3), .no, .no, .no, .no], some (.dr n1 (ns ++ [5]) (0 + 1))⟩ := by
    simp [b_law, okS3]
  rw [cons_at 0 (by decide), ex0]
  show ∃ m, exs tb_law (b_law.drop 1) _ = _
  rw [cons_at 1 (by decide), ex1]
  show ∃ m, exs tb_law (b_law.drop 2) _ = _
  rw [cons_at 2 (by decide)]
  by_cases hp : p = 0
  · have ex2 : ex tb_law b_law[2] ⟨[.no, .st, .th .fr (.int p), .th .fr (.str S3), .no, .no, .no, .no], some (.dr n1 (ns ++ [5]) (0 + 1))⟩ = .nx ⟨[.no, .st, .th .fr (.int p), .th .fr (.str SS), .no, .no, .no, .no], some (.dr n1 (ns ++ [5]) (0 + 1))⟩ := by
      simp [b_law, od_eq, VI.eq_int, hp, ev_signs]
    rw [ex2]
    exact tail3 SS (by rw [lenSS]; decide) (by rw [lenSS]; decide) p hs (by decide) (by decide)
  · have ex2 : ex tb_law b_law[2] ⟨[.no, .st, .th .fr (.int p), .th .fr (.str S3), .no, .no, .no, .no], some (.dr n1 (ns ++ [5]) (0 + 1))⟩ = .nx ⟨[.no, .st, .th .fr (.int p), .th .fr (.str S3), .no, .no, .no, .no], some (.dr n1 (ns ++ [5]) (0 + 1))⟩ := by
      simp [b_law, od_eq, VI.eq_int, hp]
    rw [ex2]
    exact tail3 S3 (by rw [lenS3]; decide) (by rw [lenS3]; decide) p hs (by decide) (by decide)
end K01

set_option Elab.async false
set_option linter.all false
set_option maxRecDepth 100000
set_option maxHeartbeats 4000000
open PySem PySem.W PyProof.Rows
set_option maxHeartbeats 0 in
theorem PySem.Challenge.cw_anyfactors_k01_valid_names_holds : PySem.Challenge.rw_anyfactors_k01_valid_names.Holds := by
  w_on; o_law; k_head; (case hw => w_witness2)
  k_fill
  refine L2.walk_of (l := PySem.Challenge.rw_anyfactors_k01_valid_names) (n := 63) (k := 2) (x := "_law_script") (CX := fun w => L2.CX PySem.Challenge.rw_anyfactors_k01_valid_names.prog w) (sp := fun w => VI.spLaw ⟨_, fun _ => 0⟩ K01.tb_law 6 K01.b_law) rfl (by decide) rfl ⟨rfl, by decide, by decide⟩ (fun w h Y => PySem.W.kIn_of Y) ?F
    (fun _ _ a ns hl _ hS => ⟨a, ns, rfl, hS, by omega, K01.pure_law ns hl, fun _ => rfl⟩) (fun _ _ _ _ _ h => VI.cx_no h)
  case F =>
    intro w mg fa h KX G hmg
    refine' K01.all_mk KX G hmg ?a1 ?l1 ?c1 ?k1 ?a2 ?l2 ?c2 ?k2 ?a3 ?l3 ?c3 ?k3 ?a4 ?l4 ?c4 ?k4 ?a5 ?l5 ?c5 ?k5 ?a6 ?l6 ?c6 ?k6 ?z_abs ?z_all ?z_bool ?z_int ?z_isinstance ?z_len ?z_list ?z_range ?z_str ?v_DIGITS ?v_LETTERS ?v_LONGEST
    (case a1 => k_is); (case l1 => k_is); (case c1 => k_is); (case k1 => k_is); (case a2 => k_is); (case l2 => k_is); (case c2 => k_is); (case k2 => k_is); (case a3 => k_is); (case l3 => k_is); (case c3 => k_is); (case k3 => k_is); (case a4 => k_is); (case l4 => k_is); (case c4 => k_is); (case k4 => k_is); (case a5 => k_is); (case l5 => k_is); (case c5 => k_is); (case k5 => k_is); (case a6 => k_is); (case l6 => k_is); (case c6 => k_is); (case k6 => k_is); (case z_abs => k_is); (case z_all => k_is); (case z_bool => k_is); (case z_int => k_is); (case z_isinstance => k_is); (case z_len => k_is); (case z_list => k_is); (case z_range => k_is); (case z_str => k_is); (case v_DIGITS => k_is); (case v_LETTERS => k_is); (case v_LONGEST => k_is)

