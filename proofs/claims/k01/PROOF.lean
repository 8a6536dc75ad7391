import PyProof.Rows.All
import Wide.All
import OpenK.AllK
import Wide.FinOn
import HandS.ForMost
import HandS.Exc
import HandS.TryOnly
import HandS.ExcOwn
import HandS.WordsExc
import HandS.ExcInit
import HandS.ExcIs
import HandS.ExcField
import HandS.Wide
import HandS.Gcd
import HandS.IsInst
import HandS.Style
import HandS.Flow
import HandS.Conv
import HandS.ClsMeth
import HandS.Property
import PySem.Challenge.RW_fourhinges_k01_ratios
set_option Elab.async false
set_option linter.all false
set_option maxRecDepth 100000
set_option maxHeartbeats 4000000
/-! ## Trees: data as plain values, a program's defs as plain functions over them -/
namespace Tw
open PySem L2

inductive D where
  | non | bl (b : Bool) | int (i : Int) | str (x : Str) | ty (n : String) | cls (n : Nat)
  | lst (xs : List D) | tup (xs : List D) | ins (n : Nat) (ns : List Str) (xs : List D) | err (c : Nat) (ns : List Str) (xs : List D) | pen

/-- the state of the pen -/
structure Pen where
  cells : List Int
  next : Nat
  digits : Int
  rest : Int
  seed : Int
  turn : Int

inductive Out (α : Type) where
  | ok (a : α) (s : Pen)
  | exc (c : Nat) (ns : List Str) (xs : List D) (s : Pen)
  | bad

abbrev M (α : Type) := Pen → Out α
def mret {α : Type} (a : α) : M α := fun s => .ok a s
def mbad {α : Type} : M α := fun _ => .bad
def obind {α β : Type} (o : Out α) (f : α → M β) : Out β := match o with
  | .ok a s' => f a s'
  | .exc c ns xs s' => .exc c ns xs s'
  | .bad => .bad
def mbind {α β : Type} (m : M α) (f : α → M β) : M β := fun s => obind (m s) f

/-- the pen's address; the addresses that no tree may name -/
structure Fm where
  pen : Option Addr
  out : Addr → Prop
/-- the classes' addresses; the exception that is being handled: where it stands, its class, its dict -/
structure Gt where
  cls : Nat → Addr
  err : Option (Addr × Nat × Option Addr)
section
variable (G : Gt)
mutual
def Rep (p : Fm) (H : Hp) : D → V → Prop
  | .non, v => v = .non
  | .bl b, v => v = .bl b
  | .int i, v => v = .int i
  | .str x, v => v = .str x
  | .ty n, v => v = .ty n
  | .cls n, v => v = .ref (G.cls n)
  | .pen, v => ∃ a, p.pen = some a ∧ v = .ref a
  | .lst ds, v => ∃ a vs, v = .ref a ∧ ¬ p.out a ∧ H a = some (.lst vs) ∧ RepL p H ds vs
  | .tup ds, v => ∃ a vs, v = .ref a ∧ ¬ p.out a ∧ H a = some (.tup vs) ∧ RepL p H ds vs
  | .err c ns ds, v => ∃ a dd vs, v = .ref a ∧ G.err = some (a, c, dd) ∧ RepL p H ds vs ∧ ((ns = [] ∧ dd = none) ∨ ∃ b gs, ns ≠ [] ∧ dd = some b ∧ ¬ p.out b ∧ H b = some (.xd gs) ∧ ∀ (i : Nat) (f : Str) (v : V), ns[i]? = some f → vs[i]? = some v → gs.lookup f = some v)
  | .ins n ns ds, v => ∃ a dx vs, v = .ref a ∧ ¬ p.out a ∧ H a = some (.ins (G.cls n) dx (ns.zip vs)) ∧ ns.length = vs.length ∧ RepL p H ds vs
def RepL (p : Fm) (H : Hp) : List D → List V → Prop
  | [], vs => vs = []
  | d :: ds, vs => ∃ v r, vs = v :: r ∧ Rep p H d v ∧ RepL p H ds r
end

def penKV (c : Addr) (s : Pen) : List (Key × V) :=
  [(Sum.inr "cells", .ref c), (Sum.inr "next", .int s.next), (Sum.inr "digits", .int s.digits), (Sum.inr "rest", .int s.rest), (Sum.inr "seed", .int s.seed), (Sum.inr "turn", .int s.turn)]
def PenOk (p : Fm) (H : Hp) (s : Pen) : Prop := (∀ a, p.pen = some a → ∃ c, ¬ p.out c ∧ H a = some (.dK (penKV c s)) ∧ H c = some (.lst (s.cells.map V.int))) ∧ ∀ a, p.out a → ∃ o, H a = some o
/-- all stands but the pen -/
def Keep (p : Fm) (H H' : Hp) : Prop := ∀ a o, p.pen ≠ some a → H a = some o → H' a = some o
/-- an exception's own dict -/
def ExcOk (p : Fm) (H : Hp) (ns : List Str) (xs : List D) (dd : Option Addr) : Prop :=
  ∃ vs, RepL G p H xs vs ∧ ((ns = [] ∧ dd = none) ∨ ∃ b gs, ns ≠ [] ∧ dd = some b ∧ ¬ p.out b ∧ H b = some (.xd gs) ∧ ∀ (i : Nat) (f : Str) (v : V), ns[i]? = some f → vs[i]? = some v → gs.lookup f = some v)
end

theorem Keep.refl {p : Fm} {H : Hp} : Keep p H H := fun _ _ _ h => h
theorem Keep.trans {p : Fm} {H H1 H2 : Hp} (a : Keep p H H1) (b : Keep p H1 H2) : Keep p H H2 := fun x o n h => b x o n (a x o n h)
theorem Keep.new {p : Fm} {H : Hp} {a : Addr} {o : HO} (h : H a = none) : Keep p H (upd H a o) := fun b u _ e => by
  rw [upd_ne (ne_of_none e h)]; exact e

section
variable {K : PySem.W.Frag} {G : Gt} {p : Fm} {H H' : Hp}
/-- the pen's address bears a dict -/
def PenAt (p : Fm) (H : Hp) : Prop := ∀ a, p.pen = some a → ∃ kvs, H a = some (.dK kvs)
theorem PenOk.at {s : Pen} (h : PenOk p H s) : PenAt p H := fun a e => let ⟨_, _, h1, _⟩ := h.1 a e; ⟨_, h1⟩
theorem PenOk.free {s : Pen} (h : PenOk p H s) {a : Addr} (n : H a = none) : ¬ p.out a := fun z => by
  obtain ⟨o, e⟩ := h.2 a z
  rw [n] at e
  cases e
theorem PenAt.ne (h : PenAt p H) {a : Addr} {o : HO} (e : H a = some o) (d : ∀ kvs, o ≠ .dK kvs) : p.pen ≠ some a := fun z => by
  obtain ⟨kvs, q⟩ := h a z
  rw [e] at q
  exact d kvs (Option.some.inj q)
/-- a new object leaves the pen -/
theorem PenOk.new {s : Pen} (h : PenOk p H s) {a : Addr} {o : HO} (n : H a = none) : PenOk p (upd H a o) s := by
  refine ⟨fun b e => ?_, fun b e => ?_⟩
  · obtain ⟨c, h0, h1, h2⟩ := h.1 b e
    exact ⟨c, h0, by rw [upd_ne (ne_of_none h1 n)]; exact h1, by rw [upd_ne (ne_of_none h2 n)]; exact h2⟩
  · obtain ⟨u, h1⟩ := h.2 b e
    exact ⟨u, by rw [upd_ne (ne_of_none h1 n)]; exact h1⟩
mutual
theorem rep_keep (h : PenAt p H) (k : Keep p H H') : ∀ (d : D) (v : V), Rep G p H d v → Rep G p H' d v
  | .non, _, q => q
  | .bl _, _, q => q
  | .int _, _, q => q
  | .str _, _, q => q
  | .ty _, _, q => q
  | .cls _, _, q => q
  | .pen, _, q => q
  | .lst ds, v, q => by
    obtain ⟨a, vs, e, q0, q1, q2⟩ := q
    exact ⟨a, vs, e, q0, k _ _ (h.ne q1 (fun _ z => nomatch z)) q1, repL_keep h k ds vs q2⟩
  | .tup ds, v, q => by
    obtain ⟨a, vs, e, q0, q1, q2⟩ := q
    exact ⟨a, vs, e, q0, k _ _ (h.ne q1 (fun _ z => nomatch z)) q1, repL_keep h k ds vs q2⟩
  | .err c ns ds, v, q => by
    obtain ⟨a, dd, vs, e, q0, q2, q3⟩ := q
    refine ⟨a, dd, vs, e, q0, repL_keep h k ds vs q2, ?_⟩
    rcases q3 with q3 | ⟨b, gs, e0, e1, e2, e3, e4⟩
    · exact .inl q3
    · exact .inr ⟨b, gs, e0, e1, e2, k _ _ (h.ne e3 (fun _ z => nomatch z)) e3, e4⟩
  | .ins n ns ds, v, q => by
    obtain ⟨a, dx, vs, e, q0, q1, q3, q2⟩ := q
    exact ⟨a, dx, vs, e, q0, k _ _ (h.ne q1 (fun _ z => nomatch z)) q1, q3, repL_keep h k ds vs q2⟩
theorem repL_keep (h : PenAt p H) (k : Keep p H H') : ∀ (ds : List D) (vs : List V), RepL G p H ds vs → RepL G p H' ds vs
  | [], _, q => q
  | d :: ds, vs, q => by
    obtain ⟨v, r, e, q1, q2⟩ := q
    exact ⟨v, r, e, rep_keep h k d v q1, repL_keep h k ds r q2⟩
end
/-! another frame -/
mutual
theorem rep_out {q : Fm} (hp : q.pen = p.pen) (ho : ∀ a o, H a = some o → ¬ p.out a → ¬ q.out a) : ∀ (d : D) (v : V), Rep G p H d v → Rep G q H d v
  | .non, _, h => h
  | .bl _, _, h => h
  | .int _, _, h => h
  | .str _, _, h => h
  | .ty _, _, h => h
  | .cls _, _, h => h
  | .pen, _, h => by obtain ⟨a, e, z⟩ := h; exact ⟨a, hp.trans e, z⟩
  | .lst ds, v, h => by
    obtain ⟨a, vs, e, q0, q1, q2⟩ := h
    exact ⟨a, vs, e, ho _ _ q1 q0, q1, repL_out hp ho ds vs q2⟩
  | .tup ds, v, h => by
    obtain ⟨a, vs, e, q0, q1, q2⟩ := h
    exact ⟨a, vs, e, ho _ _ q1 q0, q1, repL_out hp ho ds vs q2⟩
  | .err c ns ds, v, h => by
    obtain ⟨a, dd, vs, e, q0, q2, q3⟩ := h
    refine ⟨a, dd, vs, e, q0, repL_out hp ho ds vs q2, ?_⟩
    rcases q3 with q3 | ⟨b, gs, e0, e1, e2, e3, e4⟩
    · exact .inl q3
    · exact .inr ⟨b, gs, e0, e1, ho _ _ e3 e2, e3, e4⟩
  | .ins n ns ds, v, h => by
    obtain ⟨a, dx, vs, e, q0, q1, q3, q2⟩ := h
    exact ⟨a, dx, vs, e, ho _ _ q1 q0, q1, q3, repL_out hp ho ds vs q2⟩
theorem repL_out {q : Fm} (hp : q.pen = p.pen) (ho : ∀ a o, H a = some o → ¬ p.out a → ¬ q.out a) : ∀ (ds : List D) (vs : List V), RepL G p H ds vs → RepL G q H ds vs
  | [], _, h => h
  | d :: ds, vs, h => by
    obtain ⟨v, r, e, q1, q2⟩ := h
    exact ⟨v, r, e, rep_out hp ho d v q1, repL_out hp ho ds r q2⟩
end
/-! a change at an address that no tree names -/
mutual
theorem rep_upd {a0 : Addr} {o0 : HO} (ha : p.out a0) : ∀ (d : D) (v : V), Rep G p H d v → Rep G p (upd H a0 o0) d v
  | .non, _, h => h
  | .bl _, _, h => h
  | .int _, _, h => h
  | .str _, _, h => h
  | .ty _, _, h => h
  | .cls _, _, h => h
  | .pen, _, h => h
  | .lst ds, v, h => by
    obtain ⟨a, vs, e, q0, q1, q2⟩ := h
    exact ⟨a, vs, e, q0, by rw [upd_ne (fun z => q0 (by rw [z]; exact ha))]; exact q1, repL_upd ha ds vs q2⟩
  | .tup ds, v, h => by
    obtain ⟨a, vs, e, q0, q1, q2⟩ := h
    exact ⟨a, vs, e, q0, by rw [upd_ne (fun z => q0 (by rw [z]; exact ha))]; exact q1, repL_upd ha ds vs q2⟩
  | .err c ns ds, v, h => by
    obtain ⟨a, dd, vs, e, q0, q2, q3⟩ := h
    refine ⟨a, dd, vs, e, q0, repL_upd ha ds vs q2, ?_⟩
    rcases q3 with q3 | ⟨b, gs, e0, e1, e2, e3, e4⟩
    · exact .inl q3
    · exact .inr ⟨b, gs, e0, e1, e2, by rw [upd_ne (fun z => e2 (by rw [z]; exact ha))]; exact e3, e4⟩
  | .ins n ns ds, v, h => by
    obtain ⟨a, dx, vs, e, q0, q1, q3, q2⟩ := h
    exact ⟨a, dx, vs, e, q0, by rw [upd_ne (fun z => q0 (by rw [z]; exact ha))]; exact q1, q3, repL_upd ha ds vs q2⟩
theorem repL_upd {a0 : Addr} {o0 : HO} (ha : p.out a0) : ∀ (ds : List D) (vs : List V), RepL G p H ds vs → RepL G p (upd H a0 o0) ds vs
  | [], _, h => h
  | d :: ds, vs, h => by
    obtain ⟨v, r, e, q1, q2⟩ := h
    exact ⟨v, r, e, rep_upd ha d v q1, repL_upd ha ds r q2⟩
end
theorem repL_len : ∀ {ds : List D} {vs : List V}, RepL G p H ds vs → ds.length = vs.length
  | [], vs, q => by rw [(show vs = [] from q)]; rfl
  | d :: ds, vs, q => by
    obtain ⟨v, r, e, _, q2⟩ := q
    subst e
    rw [List.length_cons, List.length_cons, repL_len q2]
theorem repL_get : ∀ {ds : List D} {vs : List V} {i : Nat} {d : D}, RepL G p H ds vs → ds[i]? = some d → ∃ v, vs[i]? = some v ∧ Rep G p H d v
  | [], _, i, d, _, e => by simp at e
  | d :: ds, vs, 0, x, q, e => by
    obtain ⟨v, r, rfl, q1, _⟩ := q
    simp at e; subst e
    exact ⟨v, rfl, q1⟩
  | d :: ds, vs, i + 1, x, q, e => by
    obtain ⟨v, r, rfl, _, q2⟩ := q
    obtain ⟨u, h1, h2⟩ := repL_get (i := i) q2 (by simpa using e)
    exact ⟨u, by simpa using h1, h2⟩
theorem repL_get' : ∀ {ds : List D} {vs : List V} {i : Nat} {v : V}, RepL G p H ds vs → vs[i]? = some v → ∃ d, ds[i]? = some d ∧ Rep G p H d v := fun {ds vs i v} q e => by
  have hl := repL_len q
  obtain ⟨h1, _⟩ := List.getElem?_eq_some_iff.mp e
  have h2 : ds[i]? = some (ds[i]'(by omega)) := List.getElem?_eq_some_iff.mpr ⟨by omega, rfl⟩
  obtain ⟨u, h3, h4⟩ := repL_get q h2
  rw [e] at h3; cases h3
  exact ⟨_, h2, h4⟩
theorem repL_app : ∀ {ds es : List D} {vs us : List V}, RepL G p H ds vs → RepL G p H es us → RepL G p H (ds ++ es) (vs ++ us)
  | [], es, vs, us, q, q' => by rw [(show vs = [] from q)]; exact q'
  | d :: ds, es, vs, us, q, q' => by
    obtain ⟨v, r, rfl, q1, q2⟩ := q
    exact ⟨v, r ++ us, rfl, q1, repL_app q2 q'⟩

abbrev Loc := List (Option D)
/-- the slots -/
def EnvOk (G : Gt) (p : Fm) (H : Hp) (σ : St) (ρ : Loc) : Prop :=
  σ.length = ρ.length ∧ ∀ (i : Nat) (d : D), ρ[i]? = some (some d) → ∃ v, σ[i]? = some (some v) ∧ Rep G p H d v
theorem EnvOk.keep {σ : St} {ρ : Loc} (h : PenAt p H) (k : Keep p H H') (e : EnvOk G p H σ ρ) : EnvOk G p H' σ ρ :=
  ⟨e.1, fun i d q => let ⟨v, h1, h2⟩ := e.2 i d q; ⟨v, h1, rep_keep h k d v h2⟩⟩
theorem EnvOk.set {σ : St} {ρ : Loc} {i : Nat} {d : D} {v : V} (e : EnvOk G p H σ ρ) (q : Rep G p H d v) : EnvOk G p H (σ.set i (some v)) (ρ.set i (some d)) := by
  refine ⟨by simp [e.1], fun j x hx => ?_⟩
  rw [List.getElem?_set] at hx
  by_cases hij : i = j
  · subst hij
    simp only [if_true] at hx
    by_cases hl : i < ρ.length
    · rw [if_pos hl] at hx
      have hx' : d = x := by simpa using hx
      subst hx'
      exact ⟨v, by rw [List.getElem?_set]; simp [e.1, hl], q⟩
    · rw [if_neg hl] at hx; cases hx
  · rw [if_neg hij] at hx
    obtain ⟨u, h1, h2⟩ := e.2 j x hx
    exact ⟨u, by rw [List.getElem?_set, if_neg hij]; exact h1, h2⟩

/-- what is wanted of an outcome -/
def FinG {α β : Type} (G : Gt) (W : WX) (Rel : Fm → Hp → α → β → Prop) (p : Fm) (σ : St) (H : Hp) (Q : β → Hp → Prop) : Out α → Prop
  | .ok a s => ∀ b H', Keep p H H' → PenOk p H' s → Rel p H' a b → Q b H'
  | .exc c ns xs s => ∀ dd H', Keep p H H' → PenOk p H' s → ExcOk G p H' ns xs dd → W (.ref (G.cls c)) dd σ H'
  | .bad => False
theorem FinG.keep {α β : Type} {W : WX} {Rel : Fm → Hp → α → β → Prop} {σ : St} {Q : β → Hp → Prop} {o : Out α} (k : Keep p H H') (h : FinG G W Rel p σ H Q o) : FinG G W Rel p σ H' Q o := by
  cases o with
  | ok a s => exact fun b H2 k2 => h b H2 (k.trans k2)
  | exc c ns xs s => exact fun dd H2 k2 => h dd H2 (k.trans k2)
  | bad => exact h
/-- the reading t does what m says -/
def RunG {α β : Type} (G : Gt) (W : WX) (Rel : Fm → Hp → α → β → Prop) (t : St → Hp → (β → Hp → Prop) → Prop) (m : Loc → M α) : Prop :=
  ∀ (p : Fm) (σ : St) (H : Hp) (ρ : Loc) (s : Pen) (Q : β → Hp → Prop), EnvOk G p H σ ρ → PenOk p H s → FinG G W Rel p σ H Q (m ρ s) → t σ H Q
abbrev RelE (G : Gt) : Fm → Hp → D → V → Prop := fun p H d v => Rep G p H d v
abbrev RelB : Fm → Hp → Bool → Bool → Prop := fun _ _ a b => b = a
abbrev RelA (G : Gt) : Fm → Hp → List D → List V → Prop := fun p H ds vs => RepL G p H ds vs
abbrev RunE (G : Gt) (W : WX) (t : TE) (m : Loc → M D) : Prop := RunG G W (RelE G) t m
abbrev RunT (G : Gt) (W : WX) (t : TT) (m : Loc → M Bool) : Prop := RunG G W RelB t m
abbrev RunA (G : Gt) (W : WX) (t : TA) (m : Loc → M (List D)) : Prop := RunG G W (RelA G) t m

/-- one reading behind another -/
theorem RunG.bind {α β γ δ : Type} {W : WX} {RA : Fm → Hp → α → β → Prop} {RC : Fm → Hp → γ → δ → Prop} {ta : St → Hp → (β → Hp → Prop) → Prop} {tb : β → St → Hp → (δ → Hp → Prop) → Prop} {f : Loc → M α} {g : Loc → α → M γ}
    (ha : RunG G W RA ta f)
    (hb : ∀ (p : Fm) (σ : St) (H : Hp) (ρ : Loc) (s : Pen) (a : α) (b : β) (Q : δ → Hp → Prop), EnvOk G p H σ ρ → PenOk p H s → RA p H a b → FinG G W RC p σ H Q (g ρ a s) → tb b σ H Q) :
    RunG G W RC (fun σ H Q => ta σ H fun x H1 => tb x σ H1 Q) (fun ρ => mbind (f ρ) (g ρ)) := by
  intro p σ H ρ s Q e pk fin
  refine ha p σ H ρ s _ e pk ?_
  have fin : FinG G W RC p σ H Q (obind (f ρ s) (g ρ)) := fin
  cases h : f ρ s with
  | ok a s' =>
    rw [h] at fin
    exact fun b H1 k pk1 r => hb p σ H1 ρ s' a b Q (e.keep pk.at k) pk1 r (fin.keep k)
  | exc c ns xs s' =>
    rw [h] at fin
    exact fun dd H1 k pk1 x => fin dd H1 k pk1 x
  | bad =>
    rw [h] at fin
    exact fin
end
end Tw

set_option Elab.async false
set_option linter.all false
set_option maxRecDepth 100000
set_option maxHeartbeats 4000000
namespace Tw
open PySem L2
section
variable {K : PySem.W.Frag} {G : Gt} {W : WX} {X : Cx}

theorem FinG.step {α β γ δ : Type} {RA : Fm → Hp → α → β → Prop} {RC : Fm → Hp → γ → δ → Prop} {p : Fm} {σ : St} {H : Hp} {s : Pen} {Q : δ → Hp → Prop} {R : β → Hp → Prop} {f : M α} {g : α → M γ}
    (fin : FinG G W RC p σ H Q (mbind f g s))
    (hb : ∀ a s1 b H1, Keep p H H1 → PenOk p H1 s1 → RA p H1 a b → FinG G W RC p σ H1 Q (g a s1) → R b H1) : FinG G W RA p σ H R (f s) := by
  have fin : FinG G W RC p σ H Q (obind (f s) g) := fin
  cases h : f s with
  | ok a s1 => rw [h] at fin; exact fun b H1 k pk r => hb a s1 b H1 k pk r (FinG.keep k fin)
  | exc c ns xs s1 => rw [h] at fin; exact fin
  | bad => rw [h] at fin; exact fin

structure DE (G : Gt) (X : Cx) (W : WX) (e : Expr) (t : TE) (m : Loc → M D) : Prop where
  pe : PE X e t
  run : RunG G W (RelE G) t m
structure DT (G : Gt) (X : Cx) (W : WX) (e : Expr) (t : TT) (m : Loc → M Bool) : Prop where
  pt : PT X e t
  run : RunG G W RelB t m
structure DW (G : Gt) (X : Cx) (W : WX) (e : Expr) (t : TT) (m : Loc → M Bool) : Prop where
  pw : PW X e t
  run : RunG G W RelB t m
structure DA (G : Gt) (X : Cx) (W : WX) (es : List Expr) (t : TA) (m : Loc → M (List D)) : Prop where
  pa : PA X es t
  run : RunG G W (RelA G) t m

/-! ### names and constants -/
def mvar (i : Nat) : Loc → M D := fun ρ => match ρ[i]? with
  | some (some d) => mret d
  | _ => mbad
theorem run_var {i : Nat} : RunG G W (RelE G) (tVar i) (mvar i) := by
  intro p σ H ρ s Q e pk fin
  unfold mvar at fin
  cases h : ρ[i]? with
  | none => rw [h] at fin; exact False.elim fin
  | some o =>
    cases o with
    | none => rw [h] at fin; exact False.elim fin
    | some d =>
      rw [h] at fin
      obtain ⟨v, h1, h2⟩ := e.2 i d h
      exact ⟨v, h1, fin v H Keep.refl pk h2⟩
theorem run_c {v : V} {d : D} (h : ∀ p H, Rep G p H d v) : RunG G W (RelE G) (tC v) (fun _ => mret d) := by
  intro p σ H ρ s Q e pk fin
  exact fin v H Keep.refl pk (h p H)
theorem de_var (i : Nat) {x : Str} {pos : Pos} (hN : X.N[i]? = some x := by rfl) (hv : Vis X.env.scope x := by first | exact Or.inl rfl | exact Or.inr (Or.inl rfl) | exact Or.inr (Or.inr rfl)) (hd : (x == ("__debug__" : Str)) = false := by decide)
    (hcd : (x == ("__classdict__" : Str)) = false := by decide) : DE G X W (.Name x pos) (tVar i) (mvar i) := ⟨pe_var hN hv hd hcd, run_var⟩
theorem de_int {i : Int} {j : Nat} {pos : Pos} : DE G X W (.Constant (.int i) j pos) (tC (.int i)) (fun _ => mret (.int i)) := ⟨pe_int, run_c fun _ _ => rfl⟩
theorem de_bl {b : Bool} {j : Nat} {pos : Pos} : DE G X W (.Constant (.bool b) j pos) (tC (.bl b)) (fun _ => mret (.bl b)) := ⟨pe_bl, run_c fun _ _ => rfl⟩
theorem de_non {j : Nat} {pos : Pos} : DE G X W (.Constant .none j pos) (tC .non) (fun _ => mret .non) := ⟨pe_non, run_c fun _ _ => rfl⟩
theorem de_str {x : Str} {j : Nat} {pos : Pos} : DE G X W (.Constant (.str x) j pos) (tC (.str x)) (fun _ => mret (.str x)) := ⟨pe_str, run_c fun _ _ => rfl⟩
/-- a built-in class by name -/
theorem de_ty {x : Str} {n : String} {pos : Pos} (hg : Gl X x) (hm : X.mg x = none) (hv : bootBuiltins x = some (.type n)) (hn : x ≠ "__name__" := by decide) (hd : (x == ("__debug__" : Str)) = false := by decide) :
    DE G X W (.Name x pos) (tC (.ty n)) (fun _ => mret (.ty n)) := ⟨pe_bltn hg hm hv rfl hn hd, run_c fun _ _ => rfl⟩
/-- an own class by name -/
theorem de_cls {x : Str} {n : Nat} {pos : Pos} (hg : Gl X x) (hm : X.mg x = some (.ref (G.cls n))) (hd : (x == ("__debug__" : Str)) = false := by decide) :
    DE G X W (.Name x pos) (tC (.ref (G.cls n))) (fun _ => mret (.cls n)) := ⟨pe_glob hg hm rfl hd, run_c fun _ _ => rfl⟩
/-- a module's whole number by name -/
theorem de_gint {x : Str} {i : Int} {t : Tok} {pos : Pos} (hg : Gl X x) (hm : X.mg x = some (.int i t)) (hd : (x == ("__debug__" : Str)) = false := by decide) :
    DE G X W (.Name x pos) (tC (.int i)) (fun _ => mret (.int i)) := ⟨pe_glob hg hm ⟨t, rfl⟩ hd, run_c fun _ _ => rfl⟩

/-! ### operators -/
def Prim2 (G : Gt) (r : R2) (f : D → D → M D) : Prop :=
  ∀ (W : WX) (p : Fm) (σ : St) (H : Hp) (s : Pen) (x y : D) (vx vy : V) (Q : VK), PenOk p H s → Rep G p H x vx → Rep G p H y vy → FinG G W (RelE G) p σ H Q (f x y s) → r vx vy H Q
def Prim1 (G : Gt) (r : V → Hp → VK → Prop) (f : D → M D) : Prop :=
  ∀ (W : WX) (p : Fm) (σ : St) (H : Hp) (s : Pen) (x : D) (vx : V) (Q : VK), PenOk p H s → Rep G p H x vx → FinG G W (RelE G) p σ H Q (f x s) → r vx H Q
def PrimL (G : Gt) (r : List V → Hp → VK → Prop) (f : List D → M D) : Prop :=
  ∀ (W : WX) (p : Fm) (σ : St) (H : Hp) (s : Pen) (xs : List D) (vs : List V) (Q : VK), PenOk p H s → RepL G p H xs vs → FinG G W (RelE G) p σ H Q (f xs s) → r vs H Q
variable {a b c : Expr} {ta tb tc te : TE} {fa fb fc fe : Loc → M D} {r : R2} {f : D → D → M D} {pos : Pos}
theorem run_op (hp : Prim2 G r f) (ha : RunG G W (RelE G) ta fa) (hb : RunG G W (RelE G) tb fb) : RunG G W (RelE G) (tOp r ta tb) (fun ρ => mbind (fa ρ) fun x => mbind (fb ρ) fun y => f x y) := by
  intro p σ H ρ s Q e pk fin
  exact ha p σ H ρ s _ e pk (fin.step fun x s1 vx H1 k1 pk1 rx fin1 => hb p σ H1 ρ s1 _ (e.keep pk.at k1) pk1 (fin1.step fun y s2 vy H2 k2 pk2 ry fin2 =>
    hp W p σ H2 s2 x y vx vy Q pk2 (rep_keep pk1.at k2 x vx rx) ry fin2))
theorem de_op {op : Operator} (ho : OpR X (binaryOp op) r) (hp : Prim2 G r f) (ha : DE G X W a ta fa) (hb : DE G X W b tb fb) : DE G X W (.BinOp a op b pos) (tOp r ta tb) (fun ρ => mbind (fa ρ) fun x => mbind (fb ρ) fun y => f x y) :=
  ⟨pe_op ho ha.pe hb.pe, run_op hp ha.run hb.run⟩
theorem de_cmp {op : CmpOp} (ho : OpR X (compareOp op) r) (hp : Prim2 G r f) (ha : DE G X W a ta fa) (hb : DE G X W b tb fb) (hm : behindInMarks op b = false := by first | exact nomark _ | rfl) : DE G X W (.Compare a [op] [b] pos) (tOp r ta tb) (fun ρ => mbind (fa ρ) fun x => mbind (fb ρ) fun y => f x y) :=
  ⟨pe_cmpR ho ha.pe hb.pe hm, run_op hp ha.run hb.run⟩
theorem run_un {r : V → Hp → VK → Prop} {f : D → M D} (hp : Prim1 G r f) (ha : RunG G W (RelE G) ta fa) : RunG G W (RelE G) (tUn r ta) (fun ρ => mbind (fa ρ) f) := by
  intro p σ H ρ s Q e pk fin
  exact ha p σ H ρ s _ e pk (fin.step fun x s1 vx H1 k1 pk1 rx fin1 => hp W p σ H1 s1 x vx Q pk1 rx fin1)
theorem de_un {op : UnaryOp} {r : V → Hp → VK → Prop} {f : D → M D} (ho : UnR X (unaryOp op) r) (hp : Prim1 G r f) (ha : DE G X W a ta fa) : DE G X W (.UnaryOp op a pos) (tUn r ta) (fun ρ => mbind (fa ρ) f) := ⟨pe_un ho ha.pe, run_un hp ha.run⟩
/-- of two readings for one operation -/
theorem Prim2.or {r r' : R2} {f f' : D → D → M D} {f2 : D → D → M D} (h : Prim2 G r f) (h' : Prim2 G r' f') (hf : ∀ x y, f2 x y = f x y ∨ f2 x y = f' x y) : Prim2 G (fun x y H Q => r x y H Q ∨ r' x y H Q) f2 := by
  intro W p σ H s x y vx vy Q pk rx ry fin
  rcases hf x y with e | e
  · rw [e] at fin; exact .inl (h W p σ H s x y vx vy Q pk rx ry fin)
  · rw [e] at fin; exact .inr (h' W p σ H s x y vx vy Q pk rx ry fin)
theorem PrimL.or {r r' : List V → Hp → VK → Prop} {f f' f2 : List D → M D} (h : PrimL G r f) (h' : PrimL G r' f') (hf : ∀ x, f2 x = f x ∨ f2 x = f' x) : PrimL G (fun x H Q => r x H Q ∨ r' x H Q) f2 := by
  intro W p σ H s x vx Q pk rx fin
  rcases hf x with e | e
  · rw [e] at fin; exact .inl (h W p σ H s x vx Q pk rx fin)
  · rw [e] at fin; exact .inr (h' W p σ H s x vx Q pk rx fin)

def int2 (g : Int → Int → D) : D → D → M D := fun x y => match x, y with
  | .int i, .int j => mret (g i j)
  | _, _ => mbad
def int2c (c : Int → Int → Bool) (g : Int → Int → D) : D → D → M D := fun x y => match x, y with
  | .int i, .int j => if c i j = true then mret (g i j) else mbad
  | _, _ => mbad
theorem prim_I0 {g : Int → Int → D} {gv : Int → Int → V} (hg : ∀ p H i j, Rep G p H (g i j) (gv i j)) : Prim2 G (rI0 gv) (int2 g) := by
  intro W p σ H s x y vx vy Q pk rx ry fin
  unfold int2 at fin
  split at fin
  · exact ⟨_, _, rx, ry, fin _ H Keep.refl pk (hg ..)⟩
  · exact fin.elim
theorem prim_I {C : Int → Int → Prop} {c : Int → Int → Bool} {g : Int → Int → D} {gv : Int → Int → V} (hc : ∀ i j, c i j = true → C i j) (hg : ∀ p H i j, Rep G p H (g i j) (gv i j)) : Prim2 G (rI C gv) (int2c c g) := by
  intro W p σ H s x y vx vy Q pk rx ry fin
  unfold int2c at fin
  split at fin
  · split at fin
    · rename_i h
      exact ⟨_, _, rx, ry, hc _ _ h, fin _ H Keep.refl pk (hg ..)⟩
    · exact fin.elim
  · exact fin.elim
def addI : D → D → M D := int2 fun i j => .int (i + j)
def subI : D → D → M D := int2 fun i j => .int (i - j)
def mulOk (i j : Int) : Bool := decide (j.natAbs < 2 ^ 64) || (decide (i.natAbs < 2 ^ 64) || decide (i.natAbs.log2 + j.natAbs.log2 < 1000000))
def CMulX (i j : Int) : Prop := CMul i j ∨ CMulW i j
theorem op_mulX {X : Cx} : OpR X (binaryOp .Mult) (rI CMulX fun i j => .int (i * j)) := opI fun _ _ _ _ _ _ _ hc q => PyProof.Rows.mul_int q (hc.elim CMul.ok CMulW.ok)
def mulI : D → D → M D := int2c mulOk fun i j => .int (i * j)
def divOk (_ j : Int) : Bool := decide (0 < j ∧ j.natAbs.log2 < 9000)
def fdivI : D → D → M D := int2c divOk fun i j => .int (i / j)
def modI : D → D → M D := int2c (fun _ j => decide (0 < j)) fun i j => .int (i % j)
def powI : D → D → M D := int2c (fun i j => decide (0 ≤ j ∧ j ≤ 1000000 ∧ i.natAbs < 2 ^ 64)) fun i j => .int (i ^ j.toNat)
theorem prim_add : Prim2 G (rI0 fun i j => .int (i + j)) addI := prim_I0 fun _ _ _ _ => rfl
theorem prim_sub : Prim2 G (rI0 fun i j => .int (i - j)) subI := prim_I0 fun _ _ _ _ => rfl
theorem mulOk_of {i j : Int} (h : mulOk i j = true) : CMulX i j := by
  unfold mulOk at h
  rw [Bool.or_eq_true, Bool.or_eq_true] at h
  rcases h with h | h | h
  · have := of_decide_eq_true h
    exact .inl (.inr ⟨by omega, by omega⟩)
  · have := of_decide_eq_true h
    exact .inl (.inl ⟨by omega, by omega⟩)
  · exact .inr (of_decide_eq_true (p := i.natAbs.log2 + j.natAbs.log2 < 1000000) h)
theorem prim_mul : Prim2 G (rI CMulX fun i j => .int (i * j)) mulI := prim_I (fun i j h => mulOk_of h) fun _ _ _ _ => rfl
theorem prim_fdiv : Prim2 G (rI CDivW fun i j => .int (i / j)) fdivI := prim_I (fun i j h => of_decide_eq_true (p := 0 < j ∧ j.natAbs.log2 < 9000) h) fun _ _ _ _ => rfl
theorem prim_mod : Prim2 G (rI (fun _ j => 0 < j) fun i j => .int (i % j)) modI := prim_I (fun _ _ h => of_decide_eq_true h) fun _ _ _ _ => rfl
theorem prim_pow : Prim2 G (rI CPow fun i j => .int (i ^ j.toNat)) powI := prim_I (fun i j h => of_decide_eq_true (p := 0 ≤ j ∧ j ≤ 1000000 ∧ i.natAbs < 2 ^ 64) h) fun _ _ _ _ => rfl
def negI : D → M D := fun x => match x with
  | .int i => mret (.int (-i))
  | _ => mbad
theorem prim_neg : Prim1 G (rU fun i => .int (-i)) negI := by
  intro W p σ H s x vx Q pk rx fin
  unfold negI at fin
  split at fin
  · exact ⟨_, rx, fin _ H Keep.refl pk rfl⟩
  · exact fin.elim
/-- two lists -/
def catL : D → D → M D := fun x y => match x, y with
  | .lst xs, .lst ys => if decide (xs.length + ys.length ≤ 100000) = true then mret (.lst (xs ++ ys)) else mbad
  | _, _ => mbad
theorem prim_catL : Prim2 G rCat catL := by
  intro W p σ H s x y vx vy Q pk rx ry fin
  unfold catL at fin
  split at fin
  · rename_i xs ys
    split at fin
    · rename_i h
      obtain ⟨a, vs, rfl, h0, h1, q1⟩ := rx
      obtain ⟨b, us, rfl, h0', h2, q2⟩ := ry
      have hl : vs.length + us.length ≤ sizeLine := by
        rw [← repL_len q1, ← repL_len q2]
        exact Nat.le_trans (of_decide_eq_true h) (by decide)
      refine ⟨a, b, vs, us, rfl, rfl, h1, h2, hl, fun l hn => ?_⟩
      have k : Keep p H (upd H l (.lst (vs ++ us))) := Keep.new hn
      exact fin _ _ k (pk.new hn) ⟨l, _, rfl, pk.free hn, upd_same, repL_app (repL_keep pk.at k _ _ q1) (repL_keep pk.at k _ _ q2)⟩
    · exact fin.elim
  · exact fin.elim
/-- + of whole numbers, or of lists -/
def addIL : D → D → M D := fun x y => match x with
  | .lst _ => catL x y
  | _ => addI x y
theorem prim_addIL : Prim2 G (fun x y H Q => (rI0 fun i j => V.int (i + j)) x y H Q ∨ rCat x y H Q) addIL := Prim2.or prim_add prim_catL fun x y => by
  unfold addIL
  cases x <;> first | exact .inr rfl | exact .inl rfl

/-! ### comparisons -/
def ltI : D → D → M D := int2 fun i j => .bl (decide (i < j))
def leI : D → D → M D := int2 fun i j => .bl (decide (i ≤ j))
def gtI : D → D → M D := int2 fun i j => .bl (decide (j < i))
def geI : D → D → M D := int2 fun i j => .bl (decide (j ≤ i))
theorem prim_lt : Prim2 G (rI0 fun i j => .bl (decide (i < j))) ltI := prim_I0 fun _ _ _ _ => rfl
theorem prim_le : Prim2 G (rI0 fun i j => .bl (decide (i ≤ j))) leI := prim_I0 fun _ _ _ _ => rfl
theorem prim_gt : Prim2 G (rI0 fun i j => .bl (decide (j < i))) gtI := prim_I0 fun _ _ _ _ => rfl
theorem prim_ge : Prim2 G (rI0 fun i j => .bl (decide (j ≤ i))) geI := prim_I0 fun _ _ _ _ => rfl

mutual
def toP : D → Option PyData
  | .non => some .none
  | .bl b => some (.bool b)
  | .int i => some (.int i)
  | .str x => some (.str x)
  | .lst xs => (toPL xs).map .list
  | .tup xs => (toPL xs).map .tuple
  | _ => none
def toPL : List D → Option (List PyData)
  | [] => some []
  | d :: ds => match toP d, toPL ds with
    | some x, some xs => some (x :: xs)
    | _, _ => none
end
def eqDat : D → D → M D := fun x y => match toP x, toP y with
  | some a, some b => if (SeqAt.shaped a && SeqAt.shaped b) = true then mret (.bl (PyData.eqv a b)) else mbad
  | _, _ => mbad
def neDat : D → D → M D := fun x y => match toP x, toP y with
  | some a, some b => if (SeqAt.shaped a && SeqAt.shaped b) = true then mret (.bl (!PyData.eqv a b)) else mbad
  | _, _ => mbad

mutual
theorem dp_of {p : Fm} {H : Hp} : ∀ (d : D) (v : V) (x : PyData), Rep G p H d v → toP d = some x → Dp K H v x
  | .non, v, x, q, e => by obtain rfl : v = .non := q; cases e; exact .non
  | .bl b, v, x, q, e => by obtain rfl : v = .bl b := q; cases e; exact .bl b
  | .int i, v, x, q, e => by obtain rfl : v = .int i := q; cases e; exact .int i
  | .str y, v, x, q, e => by obtain rfl : v = .str y := q; cases e; exact .str y
  | .lst ds, v, x, q, e => by
    obtain ⟨a, vs, rfl, h0, h1, q1⟩ := q
    unfold toP at e
    cases h : toPL ds with
    | none => rw [h] at e; cases e
    | some xs => rw [h] at e; cases e; exact .lst (SqL.of h1) (dpAll_of ds vs xs q1 h)
  | .tup ds, v, x, q, e => by
    obtain ⟨a, vs, rfl, h0, h1, q1⟩ := q
    unfold toP at e
    cases h : toPL ds with
    | none => rw [h] at e; cases e
    | some xs => rw [h] at e; cases e; exact .tup (SqT.of h1) (dpAll_of ds vs xs q1 h)
  | .ty _, _, _, _, e => by cases e
  | .cls _, _, _, _, e => by cases e
  | .ins _ _ _, _, _, _, e => by cases e
  | .err _ _ _, _, _, _, e => by cases e
  | .pen, _, _, _, e => by cases e
theorem dpAll_of {p : Fm} {H : Hp} : ∀ (ds : List D) (vs : List V) (xs : List PyData), RepL G p H ds vs → toPL ds = some xs → DpAll K H vs xs
  | [], vs, xs, q, e => by
    obtain rfl : vs = [] := q
    cases e
    exact .nil
  | d :: ds, vs, xs, q, e => by
    obtain ⟨v, r, rfl, q1, q2⟩ := q
    unfold toPL at e
    cases h1 : toP d with
    | none => rw [h1] at e; cases e
    | some y =>
      cases h2 : toPL ds with
      | none => rw [h1, h2] at e; cases e
      | some ys => rw [h1, h2] at e; cases e; exact .cons (dp_of d v y q1 h1) (dpAll_of ds r ys q2 h2)
end
theorem prim_eqDat : Prim2 G (rEqD K) eqDat := by
  intro W p σ H s x y vx vy Q pk rx ry fin
  unfold eqDat at fin
  cases h1 : toP x with
  | none => rw [h1] at fin; exact False.elim fin
  | some a =>
    cases h2 : toP y with
    | none => rw [h1, h2] at fin; exact False.elim fin
    | some b =>
      rw [h1, h2] at fin
      dsimp only at fin
      by_cases h3 : (SeqAt.shaped a && SeqAt.shaped b) = true
      · rw [if_pos h3] at fin
        rw [Bool.and_eq_true] at h3
        exact ⟨a, b, dp_of x vx a rx h1, dp_of y vy b ry h2, h3.1, h3.2, fin _ H Keep.refl pk rfl⟩
      · rw [if_neg h3] at fin; exact False.elim fin
theorem prim_neDat : Prim2 G (rNeD K) neDat := by
  intro W p σ H s x y vx vy Q pk rx ry fin
  unfold neDat at fin
  cases h1 : toP x with
  | none => rw [h1] at fin; exact False.elim fin
  | some a =>
    cases h2 : toP y with
    | none => rw [h1, h2] at fin; exact False.elim fin
    | some b =>
      rw [h1, h2] at fin
      dsimp only at fin
      by_cases h3 : (SeqAt.shaped a && SeqAt.shaped b) = true
      · rw [if_pos h3] at fin
        rw [Bool.and_eq_true] at h3
        exact ⟨a, b, dp_of x vx a rx h1, dp_of y vy b ry h2, h3.1, h3.2, fin _ H Keep.refl pk rfl⟩
      · rw [if_neg h3] at fin; exact False.elim fin
/-- ==: whole numbers at once, all other data by their form -/
def eqA : D → D → M D := fun x y => match x, y with
  | .int i, .int j => mret (.bl (decide (i = j)))
  | .bl i, .bl j => mret (.bl (decide (i = j)))
  | _, _ => eqDat x y
def neA : D → D → M D := fun x y => match x, y with
  | .int i, .int j => mret (.bl (!decide (i = j)))
  | .bl i, .bl j => mret (.bl (!decide (i = j)))
  | _, _ => neDat x y
theorem dec_vint {i j : Int} : decide (V.int i = V.int j) = decide (i = j) := by
  by_cases h : i = j
  · subst h; simp
  · rw [decide_eq_false h, decide_eq_false fun z => h (V.int.inj z)]
theorem dec_vbl {i j : Bool} : decide (V.bl i = V.bl j) = decide (i = j) := by
  by_cases h : i = j
  · subst h; simp
  · rw [decide_eq_false h, decide_eq_false fun z => h (V.bl.inj z)]
theorem prim_eq : Prim2 G (fun x y H Q => rEq x y H Q ∨ rEqD K x y H Q) eqA := by
  intro W p σ H s x y vx vy Q pk rx ry fin
  unfold eqA at fin
  split at fin
  · rename_i i j
    obtain rfl : vx = .int i := rx
    obtain rfl : vy = .int j := ry
    exact .inl ⟨rfl, by rw [dec_vint]; exact fin _ H Keep.refl pk rfl⟩
  · rename_i i j
    obtain rfl : vx = .bl i := rx
    obtain rfl : vy = .bl j := ry
    exact .inl ⟨rfl, by rw [dec_vbl]; exact fin _ H Keep.refl pk rfl⟩
  · exact .inr (prim_eqDat W p σ H s x y vx vy Q pk rx ry fin)
theorem prim_ne : Prim2 G (fun x y H Q => rNe x y H Q ∨ rNeD K x y H Q) neA := by
  intro W p σ H s x y vx vy Q pk rx ry fin
  unfold neA at fin
  split at fin
  · rename_i i j
    obtain rfl : vx = .int i := rx
    obtain rfl : vy = .int j := ry
    exact .inl ⟨rfl, by rw [dec_vint]; exact fin _ H Keep.refl pk rfl⟩
  · rename_i i j
    obtain rfl : vx = .bl i := rx
    obtain rfl : vy = .bl j := ry
    exact .inl ⟨rfl, by rw [dec_vbl]; exact fin _ H Keep.refl pk rfl⟩
  · exact .inr (prim_neDat W p σ H s x y vx vy Q pk rx ry fin)
theorem op_eqA (hK : X.K = K) (hu : X.A.units + 64 < cLine) : OpR X (compareOp .Eq) (fun x y H Q => rEq x y H Q ∨ rEqD K x y H Q) := by
  subst hK; exact op_eq.or (op_eqD hu)
theorem op_neA (hK : X.K = K) (hu : X.A.units + 64 < cLine) : OpR X (compareOp .NotEq) (fun x y H Q => rNe x y H Q ∨ rNeD K x y H Q) := by
  subst hK; exact op_ne.or (op_neD hu)
/-- x is None; x is True (bools alone) -/
def isNo : D → D → M D := fun x y => match y with
  | .non => (match x with
    | .non => mret (.bl true)
    | _ => mret (.bl false))
  | _ => mbad
def notNo : D → D → M D := fun x y => match y with
  | .non => (match x with
    | .non => mret (.bl false)
    | _ => mret (.bl true))
  | _ => mbad
def isBo : D → D → M D := fun x y => match x, y with
  | .bl i, .bl j => mret (.bl (decide (i = j)))
  | _, _ => mbad
theorem rep_non {p : Fm} {H : Hp} {x : D} {v : V} (h : Rep G p H x v) (hx : x ≠ .non) : v ≠ .non := by
  intro e
  subst e
  cases x <;> first
    | exact hx rfl
    | exact nomatch (show V.non = _ from h)
    | (obtain ⟨_, _, z, _⟩ := h; exact nomatch z)
    | (obtain ⟨_, _, _, z, _⟩ := h; exact nomatch z)
    | (obtain ⟨_, _, _, _, z, _⟩ := h; exact nomatch z)
    | (obtain ⟨_, _, z⟩ := h; exact nomatch z)
theorem prim_isNo : Prim2 G (fun x y H Q => y = .non ∧ Q (.bl (decide (x = .non))) H) isNo := by
  intro W p σ H s x y vx vy Q pk rx ry fin
  unfold isNo at fin
  split at fin
  · refine ⟨ry, ?_⟩
    split at fin
    · obtain rfl : vx = .non := rx
      exact fin _ H Keep.refl pk rfl
    · rename_i h
      rw [decide_eq_false (rep_non rx h)]
      exact fin _ H Keep.refl pk rfl
  · exact False.elim fin
theorem prim_notNo : Prim2 G (fun x y H Q => y = .non ∧ Q (.bl (!decide (x = .non))) H) notNo := by
  intro W p σ H s x y vx vy Q pk rx ry fin
  unfold notNo at fin
  split at fin
  · refine ⟨ry, ?_⟩
    split at fin
    · obtain rfl : vx = .non := rx
      exact fin _ H Keep.refl pk rfl
    · rename_i h
      rw [decide_eq_false (rep_non rx h)]
      exact fin _ H Keep.refl pk rfl
  · exact False.elim fin
theorem prim_isBo : Prim2 G rIsB isBo := by
  intro W p σ H s x y vx vy Q pk rx ry fin
  unfold isBo at fin
  split at fin
  · exact ⟨_, _, rx, ry, fin _ H Keep.refl pk rfl⟩
  · exact False.elim fin

/-! ### tests -/
def asB (d : D) : M Bool := match d with
  | .bl b => mret b
  | _ => mbad
theorem run_tB (h : RunG G W (RelE G) te fe) : RunG G W RelB (tB te) (fun ρ => mbind (fe ρ) asB) := by
  intro p σ H ρ s Q e pk fin
  refine h p σ H ρ s _ e pk (fin.step fun x s1 vx H1 k1 pk1 rx fin1 => ?_)
  unfold asB at fin1
  split at fin1
  · exact ⟨_, rx, fin1 _ H1 Keep.refl pk1 rfl⟩
  · exact False.elim fin1
theorem dt_val {e : Expr} (h : DE G X W e te fe) (he : ∀ whole, isTrue e X.env whole = (do let v ← whole; standAt e.pos; holding [v] (truthy v)) := by intro _; rfl) : DT G X W e (tB te) (fun ρ => mbind (fe ρ) asB) :=
  ⟨pt_val h.pe he, run_tB h.run⟩
theorem dt_cmp {op : CmpOp} (ho : OpR X (compareOp op) r) (hp : Prim2 G r f) (ha : DE G X W a ta fa) (hb : DE G X W b tb fb) (hm : behindInMarks op b = false := by first | exact nomark _ | rfl) :
    DT G X W (.Compare a [op] [b] pos) (tTest (tOp r ta tb)) (fun ρ => mbind (mbind (fa ρ) fun x => mbind (fb ρ) fun y => f x y) asB) :=
  ⟨pt_cmpR ho ha.pe hb.pe hm, run_tB (te := tOp r ta tb) (run_op hp ha.run hb.run)⟩
variable {A1 A2 : TT} {f1 f2 : Loc → M Bool} {rest : List Expr}
theorem dw_and1 (ha : DT G X W a A1 f1) : DW G X W (.BoolOp .And [a] pos) A1 f1 := ⟨pw_and1 ha.pt, ha.run⟩
theorem dw_or1 (ha : DT G X W a A1 f1) : DW G X W (.BoolOp .Or [a] pos) A1 f1 := ⟨pw_or1 ha.pt, ha.run⟩
theorem run_and (h1 : RunG G W RelB A1 f1) (h2 : RunG G W RelB A2 f2) : RunG G W RelB (tAnd A1 A2) (fun ρ => mbind (f1 ρ) fun c => if c = true then f2 ρ else mret false) := by
  intro p σ H ρ s Q e pk fin
  refine h1 p σ H ρ s _ e pk (fin.step fun x s1 b H1 k1 pk1 rx fin1 => ?_)
  obtain rfl : b = x := rx
  cases b with
  | true =>
    show (if true = true then A2 σ H1 Q else Q false H1)
    rw [if_pos rfl] at fin1 ⊢
    exact h2 p σ H1 ρ s1 Q (e.keep pk.at k1) pk1 fin1
  | false =>
    show (if false = true then A2 σ H1 Q else Q false H1)
    rw [if_neg Bool.false_ne_true] at fin1 ⊢
    exact fin1 _ H1 Keep.refl pk1 rfl
theorem run_or (h1 : RunG G W RelB A1 f1) (h2 : RunG G W RelB A2 f2) : RunG G W RelB (tOr A1 A2) (fun ρ => mbind (f1 ρ) fun c => if c = true then mret true else f2 ρ) := by
  intro p σ H ρ s Q e pk fin
  refine h1 p σ H ρ s _ e pk (fin.step fun x s1 b H1 k1 pk1 rx fin1 => ?_)
  obtain rfl : b = x := rx
  cases b with
  | true =>
    show (if true = true then Q true H1 else A2 σ H1 Q)
    rw [if_pos rfl] at fin1 ⊢
    exact fin1 _ H1 Keep.refl pk1 rfl
  | false =>
    show (if false = true then Q true H1 else A2 σ H1 Q)
    rw [if_neg Bool.false_ne_true] at fin1 ⊢
    exact h2 p σ H1 ρ s1 Q (e.keep pk.at k1) pk1 fin1
theorem dw_and (ha : DT G X W a A1 f1) (hb : DW G X W (.BoolOp .And (b :: rest) pos) A2 f2) : DW G X W (.BoolOp .And (a :: b :: rest) pos) (tAnd A1 A2) (fun ρ => mbind (f1 ρ) fun c => if c = true then f2 ρ else mret false) := ⟨pw_and ha.pt hb.pw, run_and ha.run hb.run⟩
theorem dw_or (ha : DT G X W a A1 f1) (hb : DW G X W (.BoolOp .Or (b :: rest) pos) A2 f2) : DW G X W (.BoolOp .Or (a :: b :: rest) pos) (tOr A1 A2) (fun ρ => mbind (f1 ρ) fun c => if c = true then mret true else f2 ρ) := ⟨pw_or ha.pt hb.pw, run_or ha.run hb.run⟩
theorem dt_w {e : Expr} (h : DW G X W e A1 f1) : DT G X W e A1 f1 := ⟨h.pw.pt, h.run⟩
theorem dt_not (ha : DT G X W a A1 f1) : DT G X W (.UnaryOp .Not a pos) (tNot A1) (fun ρ => mbind (f1 ρ) fun c => mret (!c)) := by
  refine ⟨pt_not ha.pt, fun p σ H ρ s Q e pk fin => ?_⟩
  refine ha.run p σ H ρ s _ e pk (fin.step fun x s1 b H1 k1 pk1 rx fin1 => ?_)
  obtain rfl : b = x := rx
  exact fin1 _ H1 Keep.refl pk1 rfl
/-- and, or, not as values (of bools) -/
theorem de_one {op} (h : DE G X W a ta fa) : DE G X W (.BoolOp op [a] pos) ta fa := ⟨pe_one h.pe, h.run⟩
theorem de_and (ha : DE G X W a ta fa) (hb : DE G X W (.BoolOp .And (b :: rest) pos) tb fb) : DE G X W (.BoolOp .And (a :: b :: rest) pos) (tAndV ta tb) (fun ρ => mbind (mbind (fa ρ) asB) fun c => if c = true then fb ρ else mret (.bl false)) := by
  refine ⟨pe_and ha.pe hb.pe, fun p σ H ρ s Q e pk fin => ?_⟩
  refine (run_tB ha.run) p σ H ρ s (fun c H1 => if c = true then tb σ H1 Q else Q (.bl false) H1) e pk (fin.step fun x s1 b H1 k1 pk1 rx fin1 => ?_)
  obtain rfl : b = x := rx
  cases b with
  | true =>
    rw [if_pos rfl] at fin1 ⊢
    exact hb.run p σ H1 ρ s1 Q (e.keep pk.at k1) pk1 fin1
  | false =>
    rw [if_neg Bool.false_ne_true] at fin1 ⊢
    exact fin1 _ H1 Keep.refl pk1 rfl
theorem de_or (ha : DE G X W a ta fa) (hb : DE G X W (.BoolOp .Or (b :: rest) pos) tb fb) : DE G X W (.BoolOp .Or (a :: b :: rest) pos) (tOrV ta tb) (fun ρ => mbind (mbind (fa ρ) asB) fun c => if c = true then mret (.bl true) else fb ρ) := by
  refine ⟨pe_or ha.pe hb.pe, fun p σ H ρ s Q e pk fin => ?_⟩
  refine (run_tB ha.run) p σ H ρ s (fun c H1 => if c = true then Q (.bl true) H1 else tb σ H1 Q) e pk (fin.step fun x s1 b H1 k1 pk1 rx fin1 => ?_)
  obtain rfl : b = x := rx
  cases b with
  | true =>
    rw [if_pos rfl] at fin1 ⊢
    exact fin1 _ H1 Keep.refl pk1 rfl
  | false =>
    rw [if_neg Bool.false_ne_true] at fin1 ⊢
    exact hb.run p σ H1 ρ s1 Q (e.keep pk.at k1) pk1 fin1
theorem de_not (ha : DE G X W a ta fa) : DE G X W (.UnaryOp .Not a pos) (tNotV ta) (fun ρ => mbind (mbind (fa ρ) asB) fun c => mret (.bl (!c))) := by
  refine ⟨pe_not ha.pe, fun p σ H ρ s Q e pk fin => ?_⟩
  refine (run_tB ha.run) p σ H ρ s (fun c H1 => Q (.bl (!c)) H1) e pk (fin.step fun x s1 b H1 k1 pk1 rx fin1 => ?_)
  obtain rfl : b = x := rx
  exact fin1 _ H1 Keep.refl pk1 rfl
theorem de_ifExp (hc : DT G X W c A1 f1) (ha : DE G X W a ta fa) (hb : DE G X W b tb fb) : DE G X W (.IfExp c a b pos) (tIf A1 ta tb) (fun ρ => mbind (f1 ρ) fun c => if c = true then fa ρ else fb ρ) := by
  refine ⟨pe_ifExp hc.pt ha.pe hb.pe, fun p σ H ρ s Q e pk fin => ?_⟩
  refine hc.run p σ H ρ s _ e pk (fin.step fun x s1 b H1 k1 pk1 rx fin1 => ?_)
  obtain rfl : b = x := rx
  cases b with
  | true =>
    rw [if_pos rfl] at fin1 ⊢
    exact ha.run p σ H1 ρ s1 Q (e.keep pk.at k1) pk1 fin1
  | false =>
    rw [if_neg Bool.false_ne_true] at fin1 ⊢
    exact hb.run p σ H1 ρ s1 Q (e.keep pk.at k1) pk1 fin1
/-- a op b op' c -/
theorem run_chain {r' : R2} {f' : D → D → M D} (hp : Prim2 G r f) (hp' : Prim2 G r' f') (ha : RunG G W (RelE G) ta fa) (hb : RunG G W (RelE G) tb fb) (hc : RunG G W (RelE G) tc fc) :
    RunG G W (RelE G) (tChain r r' ta tb tc) (fun ρ => mbind (fa ρ) fun x => mbind (fb ρ) fun y => mbind (mbind (f x y) asB) fun k => if k = true then mbind (fc ρ) fun z => f' y z else mret (.bl false)) := by
  intro p σ H ρ s Q e pk fin
  refine ha p σ H ρ s _ e pk (fin.step fun x s1 vx H1 k1 pk1 rx fin1 => hb p σ H1 ρ s1 _ (e.keep pk.at k1) pk1 (fin1.step fun y s2 vy H2 k2 pk2 ry fin2 => ?_))
  have e2 := (e.keep pk.at k1).keep pk1.at k2
  refine hp W p σ H2 s2 x y vx vy _ pk2 (rep_keep pk1.at k2 x vx rx) ry ((fin2.step (RA := RelB) (R := fun k H3 => if k = true then tc σ H3 fun w' H4 => r' vy w' H4 Q else Q (.bl false) H3) fun k s3 b H3 k3 pk3 rk fin3 => ?_).step fun z s3 vz H3 k3 pk3 rz fin3 => ?_)
  · obtain rfl : b = k := rk
    cases b with
    | true =>
      rw [if_pos rfl] at fin3 ⊢
      exact hc p σ H3 ρ s3 _ (e2.keep pk2.at k3) pk3 (fin3.step fun z s4 vz H4 k4 pk4 rz fin4 => hp' W p σ H4 s4 y z vy vz Q pk4 (rep_keep pk2.at (k3.trans k4) y vy ry) rz fin4)
    | false =>
      rw [if_neg Bool.false_ne_true] at fin3 ⊢
      exact fin3 _ H3 Keep.refl pk3 rfl
  · unfold asB at fin3
    split at fin3
    · exact ⟨_, rz, fin3 _ H3 Keep.refl pk3 rfl⟩
    · exact False.elim fin3
theorem de_chain {op op' : CmpOp} {r' : R2} {f' : D → D → M D} (ho : OpR X (compareOp op) r) (ho' : OpR X (compareOp op') r') (hp : Prim2 G r f) (hp' : Prim2 G r' f') (ha : DE G X W a ta fa) (hb : DE G X W b tb fb) (hc : DE G X W c tc fc)
    (hm : lastMarks [op, op'] [b, c] = false := by with_unfolding_all rfl) : DE G X W (.Compare a [op, op'] [b, c] pos) (tChain r r' ta tb tc) (fun ρ => mbind (fa ρ) fun x => mbind (fb ρ) fun y => mbind (mbind (f x y) asB) fun k => if k = true then mbind (fc ρ) fun z => f' y z else mret (.bl false)) :=
  ⟨pe_chain ho ho' ha.pe hb.pe hc.pe hm, run_chain hp hp' ha.run hb.run hc.run⟩

/-! ### arguments, displays, items -/
variable {e : Expr} {es : List Expr} {tA : TA} {fA : Loc → M (List D)}
theorem da_nil : DA G X W [] tNil (fun _ => mret []) := ⟨pa_nil, fun _ _ H _ _ _ _ pk fin => fin [] H Keep.refl pk rfl⟩
theorem da_cons (ha : DE G X W e te fe) (hr : DA G X W es tA fA) (hs : starEach (e :: es) X.env = (false, eval e X.env) :: starEach es X.env := by rfl) : DA G X W (e :: es) (tCons te tA) (fun ρ => mbind (fe ρ) fun x => mbind (fA ρ) fun xs => mret (x :: xs)) := by
  refine ⟨pa_cons ha.pe hr.pa hs, fun p σ H ρ s Q e pk fin => ?_⟩
  exact ha.run p σ H ρ s _ e pk (fin.step fun x s1 vx H1 k1 pk1 rx fin1 => hr.run p σ H1 ρ s1 _ (e.keep pk.at k1) pk1 (fin1.step fun xs s2 vs H2 k2 pk2 rs fin2 =>
    fin2 _ H2 Keep.refl pk2 ⟨vx, vs, rfl, rep_keep pk1.at k2 x vx rx, rs⟩))
def tupD (xs : List D) : M D := if decide (xs.length ≤ 100000) = true then mret (.tup xs) else mbad
def lstD (xs : List D) : M D := if decide (xs.length ≤ 100000) = true then mret (.lst xs) else mbad
theorem de_tup {x1} (h : DA G X W es tA fA) : DE G X W (.Tuple es x1 pos) (tTup tA) (fun ρ => mbind (fA ρ) tupD) := by
  refine ⟨pe_tup h.pa, fun p σ H ρ s Q e pk fin => ?_⟩
  refine h.run p σ H ρ s _ e pk (fin.step fun xs s1 vs H1 k1 pk1 rs fin1 => ?_)
  unfold tupD at fin1
  split at fin1
  · rename_i hl
    refine ⟨by rw [← repL_len rs]; exact Nat.le_trans (of_decide_eq_true hl) (by decide), fun q hq => ?_⟩
    have k : Keep p H1 (upd H1 q (.tup vs)) := Keep.new hq
    exact fin1 _ _ k (pk1.new hq) ⟨q, vs, rfl, pk1.free hq, upd_same, repL_keep pk1.at k _ _ rs⟩
  · exact False.elim fin1
theorem de_lst (h : DA G X W es tA fA) : DE G X W (.List es pos) (tLst tA) (fun ρ => mbind (fA ρ) lstD) := by
  refine ⟨pe_lst h.pa, fun p σ H ρ s Q e pk fin => ?_⟩
  refine h.run p σ H ρ s _ e pk (fin.step fun xs s1 vs H1 k1 pk1 rs fin1 => ?_)
  unfold lstD at fin1
  split at fin1
  · rename_i hl
    refine ⟨by rw [← repL_len rs]; exact Nat.le_trans (of_decide_eq_true hl) (by decide), fun q hq => ?_⟩
    have k : Keep p H1 (upd H1 q (.lst vs)) := Keep.new hq
    exact fin1 _ _ k (pk1.new hq) ⟨q, vs, rfl, pk1.free hq, upd_same, repL_keep pk1.at k _ _ rs⟩
  · exact False.elim fin1
theorem atI_rep {p : Fm} {H : Hp} {ds : List D} {vs : List V} {i : Int} {d : D} (q : RepL G p H ds vs) (h : atI ds i = some d) : ∃ v, atI vs i = some v ∧ Rep G p H d v := by
  unfold atI at h ⊢
  rw [← repL_len q]
  cases e : ixN ds.length i with
  | none => rw [e] at h; cases h
  | some j =>
    rw [e] at h
    exact repL_get (i := j) q h
def itemD : D → D → M D := fun x y => match x, y with
  | .lst xs, .int i => (match atI xs i with
    | some d => mret d
    | none => mbad)
  | .tup xs, .int i => (match atI xs i with
    | some d => mret d
    | none => mbad)
  | _, _ => mbad
theorem prim_item : Prim2 G (fun x y H Q => rIxL K x y H Q ∨ rIxT K x y H Q) itemD := by
  intro W p σ H s x y vx vy Q pk rx ry fin
  unfold itemD at fin
  split at fin
  · rename_i xs i
    obtain ⟨a, vs, rfl, h0, h1, q1⟩ := rx
    obtain rfl : vy = .int i := ry
    cases h : atI xs i with
    | none => rw [h] at fin; exact False.elim fin
    | some d =>
      rw [h] at fin
      obtain ⟨v, h2, h3⟩ := atI_rep q1 h
      exact .inl ⟨a, vs, i, v, rfl, rfl, SqL.of h1, h2, fin v H Keep.refl pk h3⟩
  · rename_i xs i
    obtain ⟨a, vs, rfl, h0, h1, q1⟩ := rx
    obtain rfl : vy = .int i := ry
    cases h : atI xs i with
    | none => rw [h] at fin; exact False.elim fin
    | some d =>
      rw [h] at fin
      obtain ⟨v, h2, h3⟩ := atI_rep q1 h
      exact .inr ⟨a, vs, i, v, rfl, rfl, SqT.of h1, h2, fin v H Keep.refl pk h3⟩
  · exact False.elim fin
theorem ix_any (hK : X.K = K) : IxR X (fun x y H Q => rIxL K x y H Q ∨ rIxT K x y H Q) := by subst hK; exact ix_list.or ix_tup
theorem de_ix (hK : X.K = K) (ha : DE G X W a ta fa) (hb : DE G X W b tb fb) (hs : PlainIx b := by exact fun _ _ => rfl) : DE G X W (.Subscript a b pos) (tOp (fun x y H Q => rIxL K x y H Q ∨ rIxT K x y H Q) ta tb) (fun ρ => mbind (fa ρ) fun x => mbind (fb ρ) fun y => itemD x y) :=
  ⟨pe_ix (ix_any hK) ha.pe hb.pe hs, run_op prim_item ha.run hb.run⟩

/-! ### calls -/
/-- a def's promise by a function on trees -/
def spM (G : Gt) (n : Nat) (m : List D → M D) : Sp := fun vs H Q E => vs.length = n ∧ ∃ (p : Fm) (ds : List D) (s : Pen), RepL G p H ds vs ∧ PenOk p H s ∧ FinG G (fun c d _ H' => E c d H') (RelE G) p [] H Q (m ds s)
theorem FinG.wx {α β : Type} {W W' : WX} {R : Fm → Hp → α → β → Prop} {p : Fm} {σ σ' : St} {H : Hp} {Q : β → Hp → Prop} {o : Out α} (h : FinG G W R p σ H Q o) (hw : ∀ c d H', W c d σ H' → W' c d σ' H') : FinG G W' R p σ' H Q o := by
  cases o with
  | ok a s => exact h
  | exc c ns xs s => exact fun dd H' k pk x => hw _ _ _ (h dd H' k pk x)
  | bad => exact h
theorem run_call {n : Nat} {m : List D → M D} (ha : RunG G W (RelA G) tA fA) (hl : ∀ ρ s ds s', fA ρ s = .ok ds s' → ds.length = n) : RunG G W (RelE G) (tCallS (spM G n m) (WE W) tA) (fun ρ => mbind (fA ρ) m) := by
  intro p σ H ρ s Q e pk fin
  show tA σ H fun vs H1 => spM G n m vs H1 Q (WE W σ)
  have fin' : FinG G W (RelE G) p σ H Q (obind (fA ρ s) m) := fin
  refine ha p σ H ρ s _ e pk ?_
  cases h : fA ρ s with
  | ok ds s1 =>
    rw [h] at fin'
    intro vs H1 k1 pk1 rs
    exact ⟨by rw [← repL_len rs]; exact hl ρ s ds s1 h, p, ds, s1, rs, pk1, (FinG.keep k1 fin').wx fun _ _ _ z => z⟩
  | exc c ns xs s1 => rw [h] at fin'; exact fin'
  | bad => rw [h] at fin'; exact fin'
/-- how many arguments are written -/
def LenA (fA : Loc → M (List D)) (n : Nat) : Prop := ∀ ρ s ds s', fA ρ s = .ok ds s' → ds.length = n
theorem len_nil : LenA (fun _ => mret []) 0 := fun _ _ _ _ h => by cases h; rfl
theorem len_cons {n : Nat} (h : LenA fA n) : LenA (fun ρ => mbind (fe ρ) fun x => mbind (fA ρ) fun xs => mret (x :: xs)) (n + 1) := by
  intro ρ s ds s' e
  have e : obind (fe ρ s) (fun x => mbind (fA ρ) fun xs => mret (x :: xs)) = .ok ds s' := e
  cases h1 : fe ρ s with
  | ok x s1 =>
    rw [h1] at e
    have e : obind (fA ρ s1) (fun xs => mret (x :: xs)) = .ok ds s' := e
    cases h2 : fA ρ s1 with
    | ok xs s2 =>
      rw [h2] at e
      cases e
      rw [List.length_cons, h ρ s1 xs _ h2]
    | exc c ns xs s2 => rw [h2] at e; cases e
    | bad => rw [h2] at e; cases e
  | exc c ns xs s2 => rw [h1] at e; cases e
  | bad => rw [h1] at e; cases e
theorem de_call {k n : Nat} {f : Addr} {fd : FuncData} {ps : List Str} {m : List D → M D} {x : Str} {p0 : Pos} (F : FnOk X.prog X.w X.K X.mg X.base (L2.CX X.prog X.w) k f fd ps (spM G n m)) (hr : Room k X.A) (tk : Takes X W) (hg : Gl X x) (hm : X.mg x = some (.ref f)) (hk : PySem.W.keepIn X.K (.ref f) = true) (hb : Binds X.K fd ps [])
    (ha : DA G X W (e :: es) tA fA) (hl : LenA fA n) (hdb : (x == ("__debug__" : Str)) = false := by decide) (he : starEach (e :: es) X.env = (false, eval e X.env) :: starEach es X.env := by rfl) (hpl : (backTo pos (starEach es X.env)).any (·.1) = false := by rfl) :
    DE G X W (.Call (.Name x p0) (e :: es) [] pos) (tCallS (spM G n m) (WE W) tA) (fun ρ => mbind (fA ρ) m) :=
  ⟨pe_callS F hr hg hm hk hb (fun σ => passAt tk σ) ha.pa hdb he hpl, run_call ha.run hl⟩
/-- a built-in function, a built-in class, a function of a module -/
theorem run_prim {rl : List V → Hp → VK → Prop} {g : List D → M D} (hp : PrimL G rl g) (ha : RunG G W (RelA G) tA fA) : RunG G W (RelE G) (tCB rl tA) (fun ρ => mbind (fA ρ) g) := by
  intro p σ H ρ s Q e pk fin
  exact ha p σ H ρ s _ e pk (fin.step fun xs s1 vs H1 k1 pk1 rs fin1 => hp W p σ H1 s1 xs vs Q pk1 rs fin1)
theorem de_callB {x : Str} {p0 : Pos} {id : String} {rl : List V → Hp → VK → Prop} {g : List D → M D} (hc : CallR X (.builtin id) rl) (hp : PrimL G rl g) (hg : Gl X x) (hm : X.mg x = none) (hv : bootBuiltins x = some (.builtin id)) (ha : DA G X W (e :: es) tA fA) (hn : x ≠ "__name__" := by decide) (hdb : (x == ("__debug__" : Str)) = false := by decide)
    (he : starEach (e :: es) X.env = (false, eval e X.env) :: starEach es X.env := by rfl) (hpl : (backTo pos (starEach es X.env)).any (·.1) = false := by rfl) : DE G X W (.Call (.Name x p0) (e :: es) [] pos) (tCB rl tA) (fun ρ => mbind (fA ρ) g) :=
  ⟨pe_callB hc hg hm hv ha.pa hn hdb he hpl, run_prim hp ha.run⟩
theorem de_callTy {x : Str} {p0 : Pos} {T : String} {rl : List V → Hp → VK → Prop} {g : List D → M D} (hc : CallR X (.type T) rl) (hp : PrimL G rl g) (hg : Gl X x) (hm : X.mg x = none) (hv : bootBuiltins x = some (.type T)) (ha : DA G X W (e :: es) tA fA) (hn : x ≠ "__name__" := by decide) (hdb : (x == ("__debug__" : Str)) = false := by decide)
    (he : starEach (e :: es) X.env = (false, eval e X.env) :: starEach es X.env := by rfl) (hpl : (backTo pos (starEach es X.env)).any (·.1) = false := by rfl) : DE G X W (.Call (.Name x p0) (e :: es) [] pos) (tCB rl tA) (fun ρ => mbind (fA ρ) g) :=
  ⟨pe_callTy hc hg hm hv ha.pa hn hdb he hpl, run_prim hp ha.run⟩
theorem de_callBfun {x : Str} {p0 : Pos} {id : String} {rl : List V → Hp → VK → Prop} {g : List D → M D} (hc : CallR X (.builtin id) rl) (hp : PrimL G rl g) (hg : Gl X x) (hm : X.mg x = some (.builtin id)) (ha : DA G X W (e :: es) tA fA) (hdb : (x == ("__debug__" : Str)) = false := by decide)
    (he : starEach (e :: es) X.env = (false, eval e X.env) :: starEach es X.env := by rfl) (hpl : (backTo pos (starEach es X.env)).any (·.1) = false := by rfl) : DE G X W (.Call (.Name x p0) (e :: es) [] pos) (tCB rl tA) (fun ρ => mbind (fA ρ) g) :=
  ⟨pe_callBfun hc hg hm ha.pa hdb he hpl, run_prim hp ha.run⟩
end
end Tw

set_option Elab.async false
set_option linter.all false
set_option maxRecDepth 100000
set_option maxHeartbeats 4000000
namespace Tw
open PySem L2
inductive OutS where
  | nx (ρ : Loc) (s : Pen)
  | ret (d : D) (s : Pen)
  | bk (ρ : Loc) (s : Pen)
  | ct (ρ : Loc) (s : Pen)
  | exc (c : Nat) (ns : List Str) (xs : List D) (ρ : Loc) (s : Pen)
  | bad
abbrev MS := Loc → Pen → OutS
section
variable {K : PySem.W.Frag} {G : Gt} {W : WX} {X : Cx}
def FinS (G : Gt) (W : WX) (p : Fm) (H : Hp) (Z : Ends) : OutS → Prop
  | .nx ρ s => ∀ σ' H', Keep p H H' → PenOk p H' s → EnvOk G p H' σ' ρ → Z.nx σ' H'
  | .ret d s => ∀ v H', Keep p H H' → PenOk p H' s → Rep G p H' d v → Z.rt v H'
  | .bk ρ s => ∀ σ' H', Keep p H H' → PenOk p H' s → EnvOk G p H' σ' ρ → Z.bk σ' H'
  | .ct ρ s => ∀ σ' H', Keep p H H' → PenOk p H' s → EnvOk G p H' σ' ρ → Z.ct σ' H'
  | .exc c ns xs ρ s => ∀ dd σ' H', Keep p H H' → PenOk p H' s → EnvOk G p H' σ' ρ → ExcOk G p H' ns xs dd → W (.ref (G.cls c)) dd σ' H'
  | .bad => False
theorem FinS.keep {p : Fm} {H H' : Hp} {Z : Ends} {o : OutS} (k : Keep p H H') (h : FinS G W p H Z o) : FinS G W p H' Z o := by
  cases o with
  | nx ρ s => exact fun σ' H2 k2 => h σ' H2 (k.trans k2)
  | ret d s => exact fun v H2 k2 => h v H2 (k.trans k2)
  | bk ρ s => exact fun σ' H2 k2 => h σ' H2 (k.trans k2)
  | ct ρ s => exact fun σ' H2 k2 => h σ' H2 (k.trans k2)
  | exc c ns xs ρ s => exact fun dd σ' H2 k2 => h dd σ' H2 (k.trans k2)
  | bad => exact h
def RunS (G : Gt) (W : WX) (t : TS) (m : MS) : Prop := ∀ (p : Fm) (σ : St) (H : Hp) (ρ : Loc) (s : Pen) (Z : Ends), EnvOk G p H σ ρ → PenOk p H s → FinS G W p H Z (m ρ s) → t Z σ H
structure DS (G : Gt) (X : Cx) (W : WX) (st : Stmt) (t : TS) (m : MS) : Prop where
  ps : PS X st t
  run : RunS G W t m
structure DSs (G : Gt) (X : Cx) (W : WX) (st : List Stmt) (t : TS) (m : MS) : Prop where
  ps : PSs X st t
  run : RunS G W t m
variable {st : Stmt} {sts : List Stmt} {t u tb : TS} {m m' mb : MS} {a b c e : Expr} {ta te : TE} {fa fe : Loc → M D} {pos : Pos} {es : List Expr} {tA : TA} {fA : Loc → M (List D)} {A1 : TT} {f1 : Loc → M Bool}

def sseq (m m' : MS) : MS := fun ρ s => match m ρ s with
  | .nx ρ' s' => m' ρ' s'
  | .ret d s' => .ret d s'
  | .bk ρ' s' => .bk ρ' s'
  | .ct ρ' s' => .ct ρ' s'
  | .exc c ns xs ρ' s' => .exc c ns xs ρ' s'
  | .bad => .bad
theorem run_seq (h1 : RunS G W t m) (h2 : RunS G W u m') : RunS G W (tSeq t u) (sseq m m') := by
  intro p σ H ρ s Z e pk fin
  refine h1 p σ H ρ s _ e pk ?_
  unfold sseq at fin
  cases h : m ρ s with
  | nx ρ' s' => rw [h] at fin; exact fun σ' H' k pk' e' => h2 p σ' H' ρ' s' Z e' pk' (FinS.keep k fin)
  | ret d s' => rw [h] at fin; exact fin
  | bk ρ' s' => rw [h] at fin; exact fin
  | ct ρ' s' => rw [h] at fin; exact fin
  | exc c ns xs ρ' s' => rw [h] at fin; exact fin
  | bad => rw [h] at fin; exact fin
theorem dss_nil : DSs G X W [] tNext (fun ρ s => .nx ρ s) := ⟨pss_nil, fun p σ H ρ s Z e pk fin => fin σ H Keep.refl pk e⟩
theorem dss_cons (h1 : DS G X W st t m) (h2 : DSs G X W sts u m') : DSs G X W (st :: sts) (tSeq t u) (sseq m m') := ⟨pss_cons h1.ps h2.ps, run_seq h1.run h2.run⟩
theorem dss_one (h1 : DS G X W st t m) : DSs G X W [st] t m := ⟨pss_one h1.ps, h1.run⟩
theorem ds_pass : DS G X W (.Pass pos) tNext (fun ρ s => .nx ρ s) := ⟨ps_pass, fun p σ H ρ s Z e pk fin => fin σ H Keep.refl pk e⟩
theorem ds_break : DS G X W (.Break pos) tBreak (fun ρ s => .bk ρ s) := ⟨ps_break, fun p σ H ρ s Z e pk fin => fin σ H Keep.refl pk e⟩
theorem ds_continue : DS G X W (.Continue pos) tCont (fun ρ s => .ct ρ s) := ⟨ps_continue, fun p σ H ρ s Z e pk fin => fin σ H Keep.refl pk e⟩
/-- an expression's outcome, then -/
def sof {α : Type} (o : Out α) (ρ : Loc) (k : α → Pen → OutS) : OutS := match o with
  | .ok a s => k a s
  | .exc c ns xs s => .exc c ns xs ρ s
  | .bad => .bad
theorem FinS.step {α β : Type} {R : Fm → Hp → α → β → Prop} {p : Fm} {σ : St} {H : Hp} {ρ : Loc} {Z : Ends} {o : Out α} {k : α → Pen → OutS} {Q : β → Hp → Prop} (fin : FinS G W p H Z (sof o ρ k)) (e : ∀ H1 s1, Keep p H H1 → PenOk p H1 s1 → EnvOk G p H1 σ ρ)
    (hb : ∀ a s1 b H1, Keep p H H1 → PenOk p H1 s1 → R p H1 a b → FinS G W p H1 Z (k a s1) → Q b H1) : FinG G W R p σ H Q o := by
  cases o with
  | ok a s1 => exact fun b H1 k1 pk1 r => hb a s1 b H1 k1 pk1 r (FinS.keep k1 fin)
  | exc c ns xs s1 => exact fun dd H1 k1 pk1 x => fin dd σ H1 k1 pk1 (e H1 s1 k1 pk1) x
  | bad => exact fin
theorem ds_expr (he : DE G X W e te fe) (hs : swapsWith e none pos.line X.env = pure false := by rfl) : DS G X W (.Expr e pos) (tDrop te) (fun ρ s => sof (fe ρ s) ρ fun _ s' => .nx ρ s') := by
  refine ⟨ps_expr he.pe hs, fun p σ H ρ s Z e pk fin => ?_⟩
  exact he.run p σ H ρ s _ e pk (fin.step (fun H1 s1 k1 pk1 => e.keep pk.at k1) fun d s1 v H1 k1 pk1 rd fin1 => fin1 σ H1 Keep.refl pk1 (e.keep pk.at k1))
theorem ds_ret (he : DE G X W e te fe) : DS G X W (.Return (some e) pos) (tRet te) (fun ρ s => sof (fe ρ s) ρ fun d s' => .ret d s') := by
  refine ⟨ps_ret he.pe, fun p σ H ρ s Z e pk fin => ?_⟩
  exact he.run p σ H ρ s _ e pk (fin.step (fun H1 s1 k1 pk1 => e.keep pk.at k1) fun d s1 v H1 k1 pk1 rd fin1 => fin1 v H1 Keep.refl pk1 rd)
theorem ds_retN : DS G X W (.Return none pos) tRetN (fun _ s => .ret .non s) := ⟨ps_retN, fun p σ H ρ s Z e pk fin => fin _ H Keep.refl pk rfl⟩
theorem ds_if {x y : List Stmt} (hc : DT G X W c A1 f1) (ha : DSs G X W x t m) (hb : DSs G X W y u m') : DS G X W (.If c x y pos) (tIfS A1 t u) (fun ρ s => sof (f1 ρ s) ρ fun k s' => if k = true then m ρ s' else m' ρ s') := by
  refine ⟨ps_if hc.pt ha.ps hb.ps, fun p σ H ρ s Z e pk fin => ?_⟩
  refine hc.run p σ H ρ s _ e pk (fin.step (fun H1 s1 k1 pk1 => e.keep pk.at k1) fun x s1 b H1 k1 pk1 rx fin1 => ?_)
  obtain rfl : b = x := rx
  cases b with
  | true =>
    rw [if_pos rfl] at fin1 ⊢
    exact ha.run p σ H1 ρ s1 Z (e.keep pk.at k1) pk1 fin1
  | false =>
    rw [if_neg Bool.false_ne_true] at fin1 ⊢
    exact hb.run p σ H1 ρ s1 Z (e.keep pk.at k1) pk1 fin1

/-! ### targets -/
/-- only the slots in vs differ -/
def Off (vs : List Nat) (σ σ' : St) : Prop := σ'.length = σ.length ∧ ∀ i, i ∉ vs → σ'[i]? = σ[i]?
def RunGt (G : Gt) (vs : List Nat) (g : TG) (gm : D → Loc → Option Loc) : Prop :=
  ∀ (p : Fm) (σ : St) (H : Hp) (ρ : Loc) (d : D) (v : V) (Q : St → Hp → Prop), EnvOk G p H σ ρ → Rep G p H d v → (match gm d ρ with | some ρ' => ∀ σ', EnvOk G p H σ' ρ' → Off vs σ σ' → Q σ' H | none => False) → g v σ H Q
def RunGs (G : Gt) (vs : List Nat) (g : TGs) (gm : List D → Loc → Option Loc) : Prop :=
  ∀ (p : Fm) (σ : St) (H : Hp) (ρ : Loc) (ds : List D) (us : List V) (Q : St → Hp → Prop), EnvOk G p H σ ρ → RepL G p H ds us → (match gm ds ρ with | some ρ' => ∀ σ', EnvOk G p H σ' ρ' → Off vs σ σ' → Q σ' H | none => False) → g us σ H Q
structure DG (G : Gt) (X : Cx) (vs : List Nat) (tg : Expr) (g : TG) (gm : D → Loc → Option Loc) : Prop where
  pg : PG X tg g
  run : RunGt G vs g gm
structure DGs (G : Gt) (X : Cx) (vs : List Nat) (tg : List Expr) (g : TGs) (gm : List D → Loc → Option Loc) : Prop where
  pg : PGs X tg g
  run : RunGs G vs g gm
theorem off_set {σ : St} {i : Nat} {o : Option V} {vs : List Nat} (h : i ∈ vs) : Off vs σ (σ.set i o) := ⟨by simp, fun j hj => by
  rw [List.getElem?_set, if_neg]
  intro e
  subst e
  exact hj h⟩
theorem Off.trans {vs : List Nat} {σ σ1 σ2 : St} (a : Off vs σ σ1) (b : Off vs σ1 σ2) : Off vs σ σ2 := ⟨b.1.trans a.1, fun i hi => (b.2 i hi).trans (a.2 i hi)⟩
theorem Off.refl {vs : List Nat} {σ : St} : Off vs σ σ := ⟨rfl, fun _ _ => rfl⟩
def gnm (i : Nat) : D → Loc → Option Loc := fun d ρ => some (ρ.set i (some d))
theorem dg_name {vs : List Nat} {i : Nat} {x : Str} (hv : i ∈ vs) (hN : X.N.Nodup) (hi : X.N[i]? = some x := by rfl) (hx : L2.Loc X.env.scope x := by first | exact Or.inl rfl | exact Or.inr rfl) (hf : X.fn x = true ∨ X.env.scope.names.lookup x = some .local := by first | exact .inl rfl | exact .inr rfl | assumption) : DG G X vs (.Name x pos) (gName i) (gnm i) :=
  ⟨pg_name hN hi hx hf, fun p σ H ρ d v Q e rd h => h _ (e.set rd) (off_set hv)⟩
theorem dgs_nil {vs : List Nat} : DGs G X vs [] gNil (fun ds ρ => match ds with | [] => some ρ | _ => none) := by
  refine ⟨pgs_nil, fun p σ H ρ ds us Q e rs h => ?_⟩
  cases ds with
  | nil =>
    obtain rfl : us = [] := rs
    exact ⟨rfl, h _ e Off.refl⟩
  | cons d ds => exact h.elim
def gcn (g1 : D → Loc → Option Loc) (g2 : List D → Loc → Option Loc) : List D → Loc → Option Loc := fun ds ρ => match ds with
  | d :: r => (match g1 d ρ with
    | some ρ' => g2 r ρ'
    | none => none)
  | [] => none
theorem dgs_cons {vs : List Nat} {g : TG} {gs : TGs} {g1 : D → Loc → Option Loc} {g2 : List D → Loc → Option Loc} (h1 : DG G X vs e g g1) (h2 : DGs G X vs es gs g2) (hp : PGs X (e :: es) (gCons g gs)) : DGs G X vs (e :: es) (gCons g gs) (gcn g1 g2) := by
  refine ⟨hp, fun p σ H ρ ds us Q en rs h => ?_⟩
  cases ds with
  | nil => exact h.elim
  | cons d r =>
    obtain ⟨v, vr, rfl, rd, rr⟩ := rs
    refine ⟨v, vr, rfl, ?_⟩
    refine h1.run p σ H ρ d v _ en rd ?_
    unfold gcn at h
    dsimp only at h
    cases q : g1 d ρ with
    | none => rw [q] at h; exact h.elim
    | some ρ' =>
      rw [q] at h
      intro σ' e' o'
      refine h2.run p σ' H ρ' r vr Q e' rr ?_
      dsimp only at h
      cases q2 : g2 r ρ' with
      | none => rw [q2] at h; exact h.elim
      | some ρ2 =>
        rw [q2] at h
        exact fun σ2 e2 o2 => h σ2 e2 (o'.trans o2)
def gtm (n : Nat) (g : List D → Loc → Option Loc) : D → Loc → Option Loc := fun d ρ => match d with
  | .tup ds => if decide (ds.length = n) = true then g ds ρ else none
  | _ => none
def glm (n : Nat) (g : List D → Loc → Option Loc) : D → Loc → Option Loc := fun d ρ => match d with
  | .lst ds => if decide (ds.length = n) = true then g ds ρ else none
  | _ => none
theorem dg_tup {vs : List Nat} {n : Nat} {gs : TGs} {g2 : List D → Loc → Option Loc} {tg : Expr} (h : RunGs G vs gs g2) (hp : PG X tg (gTup K n gs)) : DG G X vs tg (gTup K n gs) (gtm n g2) := by
  refine ⟨hp, fun p σ H ρ d v Q en rd q => ?_⟩
  unfold gtm at q
  cases d <;> first
    | exact q.elim
    | skip
  rename_i ds
  obtain ⟨a, us, rfl, h0, h1, rs⟩ := rd
  dsimp only at q
  by_cases hl : ds.length = n
  · rw [if_pos (decide_eq_true hl)] at q
    exact ⟨a, us, rfl, SqT.of h1, by rw [← repL_len rs]; exact hl, h p σ H ρ ds us Q en rs q⟩
  · rw [if_neg (by simp [hl])] at q
    exact q.elim
theorem dg_lst {vs : List Nat} {n : Nat} {gs : TGs} {g2 : List D → Loc → Option Loc} {tg : Expr} (h : RunGs G vs gs g2) (hp : PG X tg (gLst K n gs)) : DG G X vs tg (gLst K n gs) (glm n g2) := by
  refine ⟨hp, fun p σ H ρ d v Q en rd q => ?_⟩
  unfold glm at q
  cases d <;> first
    | exact q.elim
    | skip
  rename_i ds
  obtain ⟨a, us, rfl, h0, h1, rs⟩ := rd
  dsimp only at q
  by_cases hl : ds.length = n
  · rw [if_pos (decide_eq_true hl)] at q
    exact ⟨a, us, rfl, SqL.of h1, by rw [← repL_len rs]; exact hl, h p σ H ρ ds us Q en rs q⟩
  · rw [if_neg (by simp [hl])] at q
    exact q.elim
def sasg (fe : Loc → M D) (gm : D → Loc → Option Loc) : MS := fun ρ s => sof (fe ρ s) ρ fun d s' => match gm d ρ with
  | some ρ' => .nx ρ' s'
  | none => .bad
theorem run_asg {vs : List Nat} {g : TG} {gm : D → Loc → Option Loc} (he : RunG G W (RelE G) te fe) (hg : RunGt G vs g gm) : RunS G W (tAsg te g) (sasg fe gm) := by
  intro p σ H ρ s Z e pk fin
  refine he p σ H ρ s _ e pk (FinS.step fin (fun H1 s1 k1 pk1 => e.keep pk.at k1) fun d s1 v H1 k1 pk1 rd fin1 => ?_)
  refine hg p σ H1 ρ d v _ (e.keep pk.at k1) rd ?_
  cases h : gm d ρ with
  | none => rw [h] at fin1; exact fin1
  | some ρ' => rw [h] at fin1; exact fun σ' e' _ => fin1 σ' H1 Keep.refl pk1 e'
theorem ds_asg {vs : List Nat} {tg : Expr} {g : TG} {gm : D → Loc → Option Loc} (he : DE G X W e te fe) (hg : DG G X vs tg g gm) (hs : swapsWithSole [tg] e pos.line X.env = pure false := by rfl) (hw : swappedStores [tg] e X.env = pure none := by rfl)
    (h1 : (assignEach [tg] X.env).map (·.2) = [assign tg X.env] := by rfl) : DS G X W (.Assign [tg] e pos) (tAsg te g) (sasg fe gm) := ⟨ps_asg he.pe hg.pg hs hw h1, run_asg he.run hg.run⟩
theorem run_gname {i : Nat} : RunGt G [i] (gName i) (gnm i) := fun p σ H ρ d v Q e rd h => h _ (e.set rd) (off_set (List.mem_singleton.mpr rfl))
theorem ds_set {i : Nat} {x : Str} {pos' : Pos} (hN : X.N.Nodup) (he : DE G X W e te fe) (hi : X.N[i]? = some x := by rfl) (hx : L2.Loc X.env.scope x := by first | exact Or.inl rfl | exact Or.inr rfl) (hs : swapsWith e (some (.Name x pos')) pos.line X.env = pure false := by rfl) (hf : X.fn x = true ∨ X.env.scope.names.lookup x = some .local := by first | exact .inl rfl | exact .inr rfl | assumption) :
    DS G X W (.Assign [.Name x pos'] e pos) (tAsg te (gName i)) (sasg fe (gnm i)) := ⟨ps_set hN hi hx he.pe hs hf, run_asg he.run run_gname⟩
/-- a, b = x, y -/
def spar (i j : Nat) (fA : Loc → M (List D)) : MS := fun ρ s => sof (fA ρ s) ρ fun ds s' => match ds with
  | [x, y] => .nx ((ρ.set i (some x)).set j (some y)) s'
  | _ => .bad
theorem run_par {i j : Nat} (ha : RunG G W (RelA G) tA fA) : RunS G W (tPar i j tA) (spar i j fA) := by
  intro p σ H ρ s Z e pk fin
  refine ha p σ H ρ s _ e pk (FinS.step fin (fun H1 s1 k1 pk1 => e.keep pk.at k1) fun ds s1 vs H1 k1 pk1 rs fin1 => ?_)
  cases ds with
  | nil => exact fin1.elim
  | cons x r =>
    cases r with
    | nil => exact fin1.elim
    | cons y r =>
      cases r with
      | nil =>
        obtain ⟨v, _, rfl, rx, w, _, rfl, ry, hz⟩ := rs
        obtain rfl := hz
        exact ⟨v, w, rfl, fin1 _ H1 Keep.refl pk1 (((e.keep pk.at k1).set rx).set ry)⟩
      | cons z r => exact fin1.elim

/-! ### what is walked -/
/-- the items of an iterator, whatever else happens meanwhile -/
def Wider (p q : Fm) (H1 : Hp) : Prop := q.pen = p.pen ∧ ∀ a o, H1 a = some o → ¬ p.out a → ¬ q.out a
theorem Wider.refl {p : Fm} {H1 : Hp} : Wider p p H1 := ⟨rfl, fun _ _ _ h => h⟩
def IterOk (G : Gt) (p : Fm) (H1 : Hp) (ds : List D) (J : It) : Prop :=
  ∀ q H s, Wider p q H1 → Keep p H1 H → PenOk q H s → (∀ (i : Nat) d, ds[i]? = some d → J.go i H ∧ ∀ x H', J.yld i H x H' → Keep q H H' ∧ PenOk q H' s ∧ Rep G q H' d x) ∧ J.stop ds.length H
abbrev RelI (G : Gt) : Fm → Hp → List D → It → Prop := fun p H ds J => IterOk G p H ds J
structure DI (G : Gt) (X : Cx) (W : WX) (tg iter : Expr) (wi : TI) (m : Loc → M (List D)) : Prop where
  pi : PI X tg iter wi
  run : RunG G W (RelI G) wi m
def asL (d : D) : M (List D) := match d with
  | .lst xs => mret xs
  | _ => mbad
def asT (d : D) : M (List D) := match d with
  | .tup xs => mret xs
  | _ => mbad
theorem iter_list {p : Fm} {H1 : Hp} {a : Addr} {vs : List V} {ds : List D} {s1 : Pen} (pk1 : PenOk p H1 s1) (h : H1 a = some (.lst vs)) (rs : RepL G p H1 ds vs) : IterOk G p H1 ds (Itl K a) := by
  intro q H s wd k pk
  have h' : H a = some (.lst vs) := k _ _ (pk1.at.ne h fun _ z => nomatch z) h
  have rs' := repL_keep (p := q) (fun a e => pk1.at a (wd.1.symm.trans e)) (fun a o n e => k a o (by rw [← wd.1]; exact n) e) _ _ (repL_out wd.1 wd.2 _ _ rs)
  refine ⟨fun i d e => ?_, ⟨vs, SqL.of h', by rw [repL_len rs']; exact Nat.le_refl _⟩⟩
  obtain ⟨v, e1, e2⟩ := repL_get rs' e
  refine ⟨⟨vs, v, SqL.of h', e1⟩, fun x H' y => ?_⟩
  obtain ⟨rfl, y⟩ := y
  have ex := y vs (SqL.of h')
  rw [e1] at ex
  cases ex
  exact ⟨Keep.refl, pk, e2⟩
theorem iter_tup {p : Fm} {H1 : Hp} {a : Addr} {vs : List V} {ds : List D} {s1 : Pen} (pk1 : PenOk p H1 s1) (h : H1 a = some (.tup vs)) (rs : RepL G p H1 ds vs) : IterOk G p H1 ds (Itt K a) := by
  intro q H s wd k pk
  have h' : H a = some (.tup vs) := k _ _ (pk1.at.ne h fun _ z => nomatch z) h
  have rs' := repL_keep (p := q) (fun a e => pk1.at a (wd.1.symm.trans e)) (fun a o n e => k a o (by rw [← wd.1]; exact n) e) _ _ (repL_out wd.1 wd.2 _ _ rs)
  refine ⟨fun i d e => ?_, ⟨vs, SqT.of h', by rw [repL_len rs']; exact Nat.le_refl _⟩⟩
  obtain ⟨v, e1, e2⟩ := repL_get rs' e
  refine ⟨⟨vs, v, SqT.of h', e1⟩, fun x H' y => ?_⟩
  obtain ⟨rfl, y⟩ := y
  have ex := y vs (SqT.of h')
  rw [e1] at ex
  cases ex
  exact ⟨Keep.refl, pk, e2⟩
theorem di_list {tg l : Expr} (hK : X.K = K) (hl : DE G X W l te fe) : DI G X W tg l (iList K te) (fun ρ => mbind (fe ρ) asL) := by
  subst hK
  refine ⟨pi_list hl.pe, fun p σ H ρ s Q e pk fin => ?_⟩
  refine hl.run p σ H ρ s _ e pk (fin.step fun d s1 v H1 k1 pk1 rd fin1 => ?_)
  cases d <;> first
    | exact fin1.elim
    | skip
  rename_i ds
  obtain ⟨a, vs, rfl, h0, h1, rs⟩ := rd
  exact ⟨a, rfl, ⟨vs, SqL.of h1⟩, fin1 _ H1 Keep.refl pk1 (iter_list pk1 h1 rs)⟩
theorem di_tup {tg l : Expr} (hK : X.K = K) (hl : DE G X W l te fe) : DI G X W tg l (iTup K te) (fun ρ => mbind (fe ρ) asT) := by
  subst hK
  refine ⟨pi_tup hl.pe, fun p σ H ρ s Q e pk fin => ?_⟩
  refine hl.run p σ H ρ s _ e pk (fin.step fun d s1 v H1 k1 pk1 rd fin1 => ?_)
  cases d <;> first
    | exact fin1.elim
    | skip
  rename_i ds
  obtain ⟨a, vs, rfl, h0, h1, rs⟩ := rd
  exact ⟨a, rfl, ⟨vs, SqT.of h1⟩, fin1 _ H1 Keep.refl pk1 (iter_tup pk1 h1 rs)⟩
def rngL (lo : Int) (n : Nat) : List D := (List.range n).map fun i => .int (lo + (i : Nat))
theorem iter_rng {p : Fm} {H1 : Hp} {lo : Int} {n : Nat} : IterOk G p H1 (rngL lo n) (Itr lo n) := by
  intro q H s wd k pk
  refine ⟨fun i d e => ?_, by show n ≤ (rngL lo n).length; simp [rngL]⟩
  have hi : i < n := by
    obtain ⟨h, _⟩ := List.getElem?_eq_some_iff.mp e
    simpa [rngL] using h
  refine ⟨hi, fun x H' y => ?_⟩
  obtain ⟨rfl, rfl⟩ := y
  have ed : d = .int (lo + i) := by
    simp [rngL, List.getElem?_map, List.getElem?_range hi] at e
    exact e.symm
  subst ed
  exact ⟨Keep.refl, pk, rfl⟩
def rng1 (ds : List D) : M (List D) := match ds with
  | [.int j] => if decide (j < 100000) = true ∧ decide (-100000 < j) = true then mret (rngL 0 j.toNat) else mbad
  | _ => mbad
def rng2 (ds : List D) : M (List D) := match ds with
  | [.int i, .int j] => if decide (j < 100000) = true ∧ decide (-100000 < j) = true ∧ decide (i < 100000) = true ∧ decide (-100000 < i) = true then mret (rngL i (j - i).toNat) else mbad
  | _ => mbad
theorem di_range1 {tg : Expr} {p0 : Pos} (hg : Gl X "range") (hm : X.mg "range" = none) (ha : DA G X W [a] tA fA) (hs : starEach [a] X.env = [(false, eval a X.env)] := by rfl) : DI G X W tg (.Call (.Name "range" p0) [a] [] pos) (iRng1 tA) (fun ρ => mbind (fA ρ) rng1) := by
  refine ⟨pi_range1 hg hm ha.pa hs, fun p σ H ρ s Q e pk fin => ?_⟩
  refine ha.run p σ H ρ s _ e pk (fin.step fun ds s1 vs H1 k1 pk1 rs fin1 => ?_)
  unfold rng1 at fin1
  split at fin1
  · split at fin1
    · rename_i j hj
      obtain ⟨v, _, rfl, rx, hz⟩ := rs
      obtain rfl := hz
      obtain rfl : v = .int j := rx
      have h1 := of_decide_eq_true hj.1
      have h2 := of_decide_eq_true hj.2
      exact ⟨j, rfl, by omega, by omega, fin1 _ H1 Keep.refl pk1 iter_rng⟩
    · exact fin1.elim
  · exact fin1.elim
theorem di_range2 {tg : Expr} {p0 : Pos} (hg : Gl X "range") (hm : X.mg "range" = none) (ha : DA G X W [a, b] tA fA) (hs : starEach [a, b] X.env = [(false, eval a X.env), (false, eval b X.env)] := by rfl) (hs2 : starEach [b] X.env = [(false, eval b X.env)] := by rfl) :
    DI G X W tg (.Call (.Name "range" p0) [a, b] [] pos) (iRng2 tA) (fun ρ => mbind (fA ρ) rng2) := by
  refine ⟨pi_range2 hg hm ha.pa hs hs2, fun p σ H ρ s Q e pk fin => ?_⟩
  refine ha.run p σ H ρ s _ e pk (fin.step fun ds s1 vs H1 k1 pk1 rs fin1 => ?_)
  unfold rng2 at fin1
  split at fin1
  · split at fin1
    · rename_i i j hj
      obtain ⟨v, _, rfl, rx, w, _, rfl, ry, hz⟩ := rs
      obtain rfl := hz
      obtain rfl : v = .int i := rx
      obtain rfl : w = .int j := ry
      have h1 := of_decide_eq_true hj.1
      have h2 := of_decide_eq_true hj.2.1
      have h3 := of_decide_eq_true hj.2.2.1
      have h4 := of_decide_eq_true hj.2.2.2
      exact ⟨i, j, rfl, ⟨by omega, by omega, by omega, by omega⟩, fin1 _ H1 Keep.refl pk1 iter_rng⟩
    · exact fin1.elim
  · exact fin1.elim

/-! ### for -/
def sloop (gm : D → Loc → Option Loc) (mb : MS) : List D → MS
  | [] => fun ρ s => .nx ρ s
  | d :: ds => fun ρ s => match gm d ρ with
    | none => .bad
    | some ρ1 => (match mb ρ1 s with
      | .nx ρ2 s2 => sloop gm mb ds ρ2 s2
      | .ct ρ2 s2 => sloop gm mb ds ρ2 s2
      | .bk ρ2 s2 => .nx ρ2 s2
      | .ret d s2 => .ret d s2
      | .exc c ns xs ρ2 s2 => .exc c ns xs ρ2 s2
      | .bad => .bad)
def sfor (fi : Loc → M (List D)) (gm : D → Loc → Option Loc) (mb : MS) : MS := fun ρ s => sof (fi ρ s) ρ fun ds s' => sloop gm mb ds ρ s'
theorem run_for {vs : List Nat} {wi : TI} {g : TG} {gm : D → Loc → Option Loc} {fi : Loc → M (List D)} (hi : RunG G W (RelI G) wi fi) (hg : RunGt G vs g gm) (hb : RunS G W tb mb) : RunS G W (tFor wi g tb) (sfor fi gm mb) := by
  intro p σ H ρ s Z e pk fin
  refine hi p σ H ρ s _ e pk (FinS.step fin (fun H1 s1 k1 pk1 => e.keep pk.at k1) fun ds s1 J H1 k1 pk1 it fin1 => ?_)
  refine ⟨fun i n σ' H' => n = ds.length - i ∧ i ≤ ds.length ∧ ∃ ρ' s', EnvOk G p H' σ' ρ' ∧ PenOk p H' s' ∧ Keep p H1 H' ∧ FinS G W p H' Z (sloop gm mb (ds.drop i) ρ' s'), ⟨ds.length, by simp, Nat.zero_le _, ρ, s1, e.keep pk.at k1, pk1, Keep.refl, fin1⟩, ?_⟩
  rintro i n σ' H' ⟨rfl, hle, ρ', s', e', pk', k', fin'⟩
  obtain ⟨hgo, hst⟩ := it p H' s' Wider.refl k' pk'
  by_cases hlt : i < ds.length
  · have ed : ds[i]? = some ds[i] := List.getElem?_eq_some_iff.mpr ⟨hlt, rfl⟩
    obtain ⟨g1, g2⟩ := hgo i _ ed
    rw [List.drop_eq_getElem_cons hlt] at fin'
    refine .inr ⟨g1, fun σ2 H2 => ∃ ρ2 s2, EnvOk G p H2 σ2 ρ2 ∧ PenOk p H2 s2 ∧ Keep p H1 H2 ∧ FinS G W p H2 Z (sloop gm mb (ds.drop (i + 1)) ρ2 s2), fun σ2 H2 h => ⟨ds.length - (i + 1), by omega, rfl, hlt, h⟩, fun x Hx y => ?_⟩
    obtain ⟨kx, pkx, rx⟩ := g2 x Hx y
    refine hg p σ' Hx ρ' _ x _ (e'.keep pk'.at kx) rx ?_
    have fin2 := FinS.keep kx fin'
    unfold sloop at fin2
    cases q : gm ds[i] ρ' with
    | none => rw [q] at fin2; exact fin2
    | some ρ1 =>
      rw [q] at fin2
      intro σ2 e2 _
      refine hb p σ2 Hx ρ1 s' _ e2 pkx ?_
      dsimp only at fin2
      cases q2 : mb ρ1 s' with
      | nx ρ2 s2 => rw [q2] at fin2; exact fun σ3 H3 k3 pk3 e3 => ⟨ρ2, s2, e3, pk3, (k'.trans kx).trans k3, FinS.keep k3 fin2⟩
      | ct ρ2 s2 => rw [q2] at fin2; exact fun σ3 H3 k3 pk3 e3 => ⟨ρ2, s2, e3, pk3, (k'.trans kx).trans k3, FinS.keep k3 fin2⟩
      | bk ρ2 s2 => rw [q2] at fin2; exact fin2
      | ret d s2 => rw [q2] at fin2; exact fin2
      | exc c ns xs ρ2 s2 => rw [q2] at fin2; exact fin2
      | bad => rw [q2] at fin2; exact fin2
  · have ei : i = ds.length := by omega
    subst ei
    rw [List.drop_length] at fin'
    exact .inl ⟨hst, fin' σ' H' Keep.refl pk' e'⟩
theorem ds_for {vs : List Nat} {tg iter : Expr} {body : List Stmt} {wi : TI} {g : TG} {gm : D → Loc → Option Loc} {fi : Loc → M (List D)} (hp : PassesOwn (model X.prog X.w) X.A X.env X.xe) (hc : X.calm = true) (hi : DI G X W tg iter wi fi) (hg : DG G X vs tg g gm) (hb : DSs G X W body tb mb)
    (hs : ∀ x, foldedSetIterable iter X.env x = pure x := by intro _; rfl) : DS G X W (.For tg iter body [] pos) (tFor wi g tb) (sfor fi gm mb) := ⟨ps_for hp hc hi.pi hg.pg hb.ps hs, run_for hi.run hg.run hb.run⟩


/-! ### comprehensions -/
def nox {α : Type} (m : M α) : M α := fun s => match m s with
  | .ok a s' => .ok a s'
  | _ => .bad
def cloop (gm : D → Loc → Option Loc) (mt : Loc → M Bool) (me : Loc → M D) : List D → Loc → List D → M (List D)
  | [], _, acc => mret acc
  | d :: ds, ρ, acc => match gm d ρ with
    | none => mbad
    | some ρ1 => mbind (nox (mt ρ1)) fun c => if c = true then (mbind (nox (me ρ1)) fun y => if decide (acc.length < 100000) = true then cloop gm mt me ds ρ (acc ++ [y]) else mbad) else cloop gm mt me ds ρ acc
def wipeL (ρ : Loc) : List Nat → Loc
  | [] => ρ
  | v :: vs => (wipeL ρ vs).set v none
theorem wipeL_len (ρ : Loc) : ∀ vs, (wipeL ρ vs).length = ρ.length
  | [] => rfl
  | v :: vs => by unfold wipeL; rw [List.length_set]; exact wipeL_len ρ vs
theorem wipeL_some {ρ : Loc} {i : Nat} {d : D} : ∀ {vs : List Nat}, (wipeL ρ vs)[i]? = some (some d) → ρ[i]? = some (some d) ∧ i ∉ vs
  | [], h => ⟨h, by simp⟩
  | v :: vs, h => by
    unfold wipeL at h
    rw [List.getElem?_set] at h
    by_cases e : v = i
    · subst e
      simp only [if_true] at h
      split at h <;> cases h
    · rw [if_neg e] at h
      obtain ⟨h1, h2⟩ := wipeL_some h
      exact ⟨h1, by simp [h2, Ne.symm e]⟩
theorem wipe_in {σ : St} {i : Nat} : ∀ {vs : List Nat}, i ∈ vs → (wipe σ vs)[i]? = if i < σ.length then some none else none
  | [], h => by cases h
  | v :: vs, h => by
    unfold wipe
    rw [List.getElem?_set, wipe_length]
    by_cases e : v = i
    · subst e; simp
    · rw [if_neg e]
      exact wipe_in ((List.mem_cons.mp h).resolve_left (Ne.symm e))
theorem wipe_off {σ σ2 : St} {vs : List Nat} (h : Off vs (wipe σ vs) σ2) : wipe σ2 vs = wipe σ vs := by
  refine List.ext_getElem? fun i => ?_
  have hl : σ2.length = σ.length := h.1.trans (wipe_length σ vs)
  by_cases e : i ∈ vs
  · rw [wipe_in e, wipe_in e, hl]
  · rw [wipe_out e, h.2 i e]
theorem EnvOk.wipe {p : Fm} {H : Hp} {σ : St} {ρ : Loc} {vs : List Nat} (e : EnvOk G p H σ ρ) : EnvOk G p H (wipe σ vs) (wipeL ρ vs) := by
  refine ⟨by rw [wipe_length, wipeL_len]; exact e.1, fun i d h => ?_⟩
  obtain ⟨h1, h2⟩ := wipeL_some h
  obtain ⟨v, h3, h4⟩ := e.2 i d h1
  exact ⟨v, by rw [wipe_out h2]; exact h3, h4⟩
theorem EnvOk.upd {p : Fm} {H : Hp} {σ : St} {ρ : Loc} {a : Addr} {o : HO} (e : EnvOk G p H σ ρ) (ha : p.out a) : EnvOk G p (L2.upd H a o) σ ρ :=
  ⟨e.1, fun i d h => let ⟨v, h1, h2⟩ := e.2 i d h; ⟨v, h1, rep_upd ha d v h2⟩⟩
theorem EnvOk.out {p q : Fm} {H : Hp} {σ : St} {ρ : Loc} (e : EnvOk G p H σ ρ) (w : Wider p q H) : EnvOk G q H σ ρ :=
  ⟨e.1, fun i d h => let ⟨v, h1, h2⟩ := e.2 i d h; ⟨v, h1, rep_out w.1 w.2 d v h2⟩⟩
theorem PenOk.upd {p : Fm} {H : Hp} {s : Pen} {a : Addr} {o : HO} (h : PenOk p H s) (ha : p.out a) (hn : p.pen ≠ some a) : PenOk p (L2.upd H a o) s := by
  refine ⟨fun b e => ?_, fun b hb => ?_⟩
  · obtain ⟨c, h0, h1, h2⟩ := h.1 b e
    exact ⟨c, h0, by rw [upd_ne (fun z => hn (by rw [← z]; exact e))]; exact h1, by rw [upd_ne (fun z => h0 (by rw [z]; exact ha))]; exact h2⟩
  · by_cases e : b = a
    · subst e; exact ⟨o, upd_same⟩
    · rw [upd_ne e]; exact h.2 b hb
/-- one address more that no tree names -/
def Fm.add (p : Fm) (a : Addr) : Fm := ⟨p.pen, fun b => p.out b ∨ b = a⟩
theorem PenOk.add {p : Fm} {H : Hp} {s : Pen} {a : Addr} {o : HO} (h : PenOk p H s) (n : H a = none) : PenOk (p.add a) (L2.upd H a o) s := by
  refine ⟨fun b e => ?_, fun b hb => ?_⟩
  · obtain ⟨c, h0, h1, h2⟩ := h.1 b e
    refine ⟨c, fun z => z.elim h0 fun z => ?_, by rw [upd_ne (ne_of_none h1 n)]; exact h1, by rw [upd_ne (ne_of_none h2 n)]; exact h2⟩
    exact ne_of_none h2 n z
  · by_cases e : b = a
    · subst e; exact ⟨o, upd_same⟩
    · rw [upd_ne e]; exact h.2 b (hb.resolve_right e)
theorem PenOk.sub {p : Fm} {H : Hp} {s : Pen} {a : Addr} (h : PenOk (p.add a) H s) : PenOk p H s :=
  ⟨fun b e => let ⟨c, h0, h1, h2⟩ := h.1 b e; ⟨c, fun z => h0 (.inl z), h1, h2⟩, fun b hb => h.2 b (.inl hb)⟩
theorem wider_add {p : Fm} {H : Hp} {a : Addr} (n : H a = none) : Wider p (p.add a) H := ⟨rfl, fun b o e h z => z.elim h fun z => ne_of_none e n z⟩
theorem run_lc {vs : List Nat} {wi : TI} {g : TG} {gm : D → Loc → Option Loc} {fi : Loc → M (List D)} {tt : TT} {mt : Loc → M Bool} (hi : RunG G W (RelI G) wi fi) (hg : RunGt G vs g gm) (ht : RunG G (fun _ _ _ _ => False) RelB tt mt) (he : RunG G (fun _ _ _ _ => False) (RelE G) te fe) :
    RunG G W (RelE G) (tLc wi g tt te vs) (fun ρ => mbind (fi ρ) fun ds => mbind (cloop gm mt fe ds (wipeL ρ vs) []) lstD) := by
  intro p σ H ρ s Q e pk fin
  refine hi p σ H ρ s _ e pk (fin.step fun ds s1 J H1 k1 pk1 it fin1 => ?_)
  intro Dd hD
  have e1 : EnvOk G p H1 (wipe σ vs) (wipeL ρ vs) := (e.keep pk.at k1).wipe
  have wd : Wider p (p.add Dd) H1 := wider_add hD
  have hpn : p.pen ≠ some Dd := fun z => by
    obtain ⟨c, _, h1, _⟩ := pk1.1 Dd z
    rw [hD] at h1
    cases h1
  refine ⟨fun i n H' => n = ds.length - i ∧ i ≤ ds.length ∧ ∃ ys us s', H' Dd = some (.lst us) ∧ RepL G (p.add Dd) H' ys us ∧ EnvOk G (p.add Dd) H' (wipe σ vs) (wipeL ρ vs) ∧ PenOk (p.add Dd) H' s' ∧ Keep p H1 H' ∧
    FinG G W (RelE G) p σ H1 Q (mbind (cloop gm mt fe (ds.drop i) (wipeL ρ vs) ys) lstD s'), ⟨ds.length, by simp, Nat.zero_le _, [], [], s1, upd_same, rfl, (e1.out wd).keep (fun a z => pk1.at a z) (Keep.new hD), pk1.add hD, Keep.new hD, fin1⟩, ?_⟩
  rintro i n H' ⟨rfl, hle, ys, us, s', hd, ry, e', pk', k', fin'⟩
  obtain ⟨hgo, hst⟩ := it (p.add Dd) H' s' wd k' pk'
  by_cases hlt : i < ds.length
  · have ed : ds[i]? = some ds[i] := List.getElem?_eq_some_iff.mpr ⟨hlt, rfl⟩
    obtain ⟨g1, g2⟩ := hgo i _ ed
    rw [List.drop_eq_getElem_cons hlt] at fin'
    refine .inr ⟨g1, fun H2 => ∃ ys us s', H2 Dd = some (.lst us) ∧ RepL G (p.add Dd) H2 ys us ∧ EnvOk G (p.add Dd) H2 (wipe σ vs) (wipeL ρ vs) ∧ PenOk (p.add Dd) H2 s' ∧ Keep p H1 H2 ∧
      FinG G W (RelE G) p σ H1 Q (mbind (cloop gm mt fe (ds.drop (i + 1)) (wipeL ρ vs) ys) lstD s'), fun H2 h => ⟨ds.length - (i + 1), by omega, rfl, hlt, h⟩, fun x Hx y => ?_⟩
    obtain ⟨kx, pkx, rx⟩ := g2 x Hx y
    refine hg (p.add Dd) (wipe σ vs) Hx (wipeL ρ vs) _ x _ (e'.keep pk'.at kx) rx ?_
    have fin2 : FinG G W (RelE G) p σ H1 Q (obind (cloop gm mt fe (ds[i] :: ds.drop (i + 1)) (wipeL ρ vs) ys s') lstD) := fin'
    unfold cloop at fin2
    cases q : gm ds[i] (wipeL ρ vs) with
    | none => rw [q] at fin2; exact fin2
    | some ρ1 =>
      rw [q] at fin2
      intro σ2 e2 o2
      refine ⟨wipe_off o2, ?_⟩
      have hdx : Hx Dd = some (.lst us) := kx _ _ hpn hd
      refine ht (p.add Dd) σ2 Hx ρ1 s' _ e2 pkx ?_
      dsimp only at fin2
      have fin3 : FinG G W (RelE G) p σ H1 Q (obind (obind (nox (mt ρ1) s') fun c => if c = true then (mbind (nox (fe ρ1)) fun y => if decide (ys.length < 100000) = true then cloop gm mt fe (ds.drop (i + 1)) (wipeL ρ vs) (ys ++ [y]) else mbad) else cloop gm mt fe (ds.drop (i + 1)) (wipeL ρ vs) ys) lstD) := fin2
      unfold nox at fin3
      cases q2 : mt ρ1 s' with
      | exc c ns xs s2 => rw [q2] at fin3; exact False.elim fin3
      | bad => rw [q2] at fin3; exact False.elim fin3
      | ok c s2 =>
        rw [q2] at fin3
        intro b H3 k3 pk3 hb
        obtain rfl : b = c := hb
        have e3 := e2.keep pkx.at k3
        have hd3 : H3 Dd = some (.lst us) := k3 _ _ hpn hdx
        have kk : Keep (p.add Dd) H' H3 := kx.trans k3
        cases b with
        | false =>
          rw [if_neg Bool.false_ne_true]
          have fin4 : FinG G W (RelE G) p σ H1 Q (obind (cloop gm mt fe (ds.drop (i + 1)) (wipeL ρ vs) ys s2) lstD) := fin3
          exact ⟨ys, us, s2, hd3, repL_keep pk'.at kk _ _ ry, e'.keep pk'.at kk, pk3, k'.trans (fun a o n h => kk a o n h), fin4⟩
        | true =>
          rw [if_pos rfl]
          have fin4 : FinG G W (RelE G) p σ H1 Q (obind (obind (nox (fe ρ1) s2) fun y => if decide (ys.length < 100000) = true then cloop gm mt fe (ds.drop (i + 1)) (wipeL ρ vs) (ys ++ [y]) else mbad) lstD) := fin3
          unfold nox at fin4
          refine he (p.add Dd) σ2 H3 ρ1 s2 _ e3 pk3 ?_
          cases q3 : fe ρ1 s2 with
          | exc c ns xs s3 => rw [q3] at fin4; exact False.elim fin4
          | bad => rw [q3] at fin4; exact False.elim fin4
          | ok yd s3 =>
            rw [q3] at fin4
            intro v H4 k4 pk4 rv
            have hd4 : H4 Dd = some (.lst us) := k4 _ _ hpn hd3
            have kk4 : Keep (p.add Dd) H' H4 := kk.trans k4
            have fin5 : FinG G W (RelE G) p σ H1 Q (obind ((if decide (ys.length < 100000) = true then cloop gm mt fe (ds.drop (i + 1)) (wipeL ρ vs) (ys ++ [yd]) else mbad) s3) lstD) := fin4
            by_cases hl : ys.length < 100000
            · rw [if_pos (decide_eq_true hl)] at fin5
              have ho : (p.add Dd).out Dd := .inr rfl
              have ry4 := repL_keep pk'.at kk4 _ _ ry
              refine ⟨us, hd4, by rw [← repL_len ry]; exact Nat.lt_of_lt_of_le hl (by decide), ys ++ [yd], us ++ [v], s3, upd_same, repL_upd ho _ _ (repL_app ry4 ⟨v, [], rfl, rv, rfl⟩), (e'.keep pk'.at kk4).upd ho, pk4.upd ho hpn, fun a o n h => ?_, fin5⟩
              rw [upd_ne (ne_of_none h hD)]
              exact (k'.trans (fun a o n h => kk4 a o n h)) a o n h
            · rw [if_neg (by simp [hl])] at fin5
              exact False.elim fin5
  · have ei : i = ds.length := by omega
    subst ei
    rw [List.drop_length] at fin'
    have fin2 : FinG G W (RelE G) p σ H1 Q (lstD ys s') := fin'
    unfold lstD at fin2
    refine .inl ⟨hst, ?_⟩
    split at fin2
    · exact fin2 _ H' k' pk'.sub ⟨Dd, us, rfl, pk1.free hD, hd, repL_out (p := p.add Dd) (q := p) rfl (fun a o _ h z => h (.inl z)) _ _ ry⟩
    · exact False.elim fin2
theorem de_lc {tg iter elt : Expr} {ifs : List Expr} {scope : Scope} {own : List (Str × Nat)} {wi : TI} {g : TG} {gm : D → Loc → Option Loc} {fi : Loc → M (List D)} {tt : TT} {mt : Loc → M Bool} (hc : X.calm = true) (hN : X.N.Nodup) (hi : DI G X W tg iter wi fi) (ok : BlkOk X.N X.env.scope scope own)
    (hg : ∀ (s : Shared) (H : Hp) (C : Addr) (cl : List (Str × Addr)) (fp : List Addr), DG G (X.blk s H scope (compEnvC scope cl C X.env) fp) (own.map (·.2)) tg g gm) (ht : ∀ (s : Shared) (H : Hp) (C : Addr) (cl : List (Str × Addr)) (fp : List Addr), PTs (X.blk s H scope (compEnvC scope cl C X.env) fp) ifs tt) (htr : RunG G (fun _ _ _ _ => False) RelB tt mt)
    (he : ∀ (s : Shared) (H : Hp) (C : Addr) (cl : List (Str × Addr)) (fp : List Addr), DE G (X.blk s H scope (compEnvC scope cl C X.env) fp) (fun _ _ _ _ => False) elt te fe) (hs : ∀ x, foldedSetIterable iter X.env x = pure x := by intro _; rfl) :
    DE G X W (.ListComp elt [⟨tg, iter, ifs, 0⟩] scope pos) (tLc wi g tt te (own.map (·.2))) (fun ρ => mbind (fi ρ) fun ds => mbind (cloop gm mt fe ds (wipeL ρ (own.map (·.2))) []) lstD) := by
  exact ⟨pe_lc hc hN hi.pi ok (fun s H C cl fp => (hg s H C cl fp).pg) ht (fun s H C cl fp => (he s H C cl fp).pe) hs, run_lc hi.run (hg X.s_0 (fun _ => none) 0 [] []).run htr (he X.s_0 (fun _ => none) 0 [] []).run⟩
end
end Tw

set_option Elab.async false
set_option linter.all false
set_option maxRecDepth 100000
set_option maxHeartbeats 4000000
set_option autoImplicit false
namespace Tw
open PySem L2 PySem.Spec PyProof.Rows
section
variable {K : PySem.W.Frag} {G : Gt} {W : WX} {X : Cx}

/-! ### built-in functions -/
def gcdD (ds : List D) : M D := match ds with
  | [.int a, .int b] => mret (.int ((Nat.gcd a.natAbs b.natAbs : Nat) : Int))
  | _ => mbad
theorem prim_gcd : PrimL G rGcd gcdD := by
  intro W p σ H s xs vs Q pk rs fin
  unfold gcdD at fin
  split at fin
  · obtain ⟨v, _, rfl, rx, w, _, rfl, ry, hz⟩ := rs
    obtain rfl := hz
    exact ⟨_, _, by rw [(show v = _ from rx), (show w = _ from ry)], fin _ H Keep.refl pk rfl⟩
  · exact fin.elim
def intD (ds : List D) : M D := match ds with
  | [.int a] => mret (.int a)
  | [.bl b] => mret (.int (if b then 1 else 0))
  | _ => mbad
theorem prim_int : PrimL G (fun xs H Q => (∃ i, xs = [.int i] ∧ Q (.int i) H) ∨ ∃ k, xs = [.bl k] ∧ Q (.int (if k then 1 else 0)) H) intD := by
  intro W p σ H s xs vs Q pk rs fin
  unfold intD at fin
  split at fin
  · obtain ⟨v, _, rfl, rx, hz⟩ := rs
    obtain rfl := hz
    exact .inl ⟨_, by rw [(show v = _ from rx)], fin _ H Keep.refl pk rfl⟩
  · obtain ⟨v, _, rfl, rx, hz⟩ := rs
    obtain rfl := hz
    exact .inr ⟨_, by rw [(show v = _ from rx)], fin _ H Keep.refl pk rfl⟩
  · exact fin.elim
def strD (ds : List D) : M D := match ds with
  | [.int a] => if decide (a.natAbs.log2 < 1920) = true then mret (.str (toString a)) else mbad
  | _ => mbad
theorem prim_str : PrimL G (fun xs H Q => ∃ i : Int, xs = [.int i] ∧ i.natAbs.log2 < 1920 ∧ Q (.str (toString i)) H) strD := by
  intro W p σ H s xs vs Q pk rs fin
  unfold strD at fin
  split at fin
  · split at fin
    · rename_i h
      obtain ⟨v, _, rfl, rx, hz⟩ := rs
      obtain rfl := hz
      exact ⟨_, by rw [(show v = _ from rx)], of_decide_eq_true h, fin _ H Keep.refl pk rfl⟩
    · exact fin.elim
  · exact fin.elim
def absD (ds : List D) : M D := match ds with
  | [.int a] => mret (.int (if a < 0 then -a else a))
  | _ => mbad
theorem prim_abs : PrimL G (fun xs H Q => ∃ i, xs = [.int i] ∧ Q (.int (if i < 0 then -i else i)) H) absD := by
  intro W p σ H s xs vs Q pk rs fin
  unfold absD at fin
  split at fin
  · obtain ⟨v, _, rfl, rx, hz⟩ := rs
    obtain rfl := hz
    exact ⟨_, by rw [(show v = _ from rx)], fin _ H Keep.refl pk rfl⟩
  · exact fin.elim
def lenD (ds : List D) : M D := match ds with
  | [.lst xs] => mret (.int (xs.length : Nat))
  | [.tup xs] => mret (.int (xs.length : Nat))
  | _ => mbad
theorem prim_len : PrimL G (fun xs H Q => ∃ p ys, xs = [.ref p] ∧ (SqL K H p ys ∨ SqT K H p ys) ∧ Q (.int ys.length) H) lenD := by
  intro W p σ H s xs vs Q pk rs fin
  unfold lenD at fin
  split at fin
  · obtain ⟨v, _, rfl, rx, hz⟩ := rs
    obtain rfl := hz
    obtain ⟨a, us, rfl, h0, h1, q1⟩ := rx
    exact ⟨a, us, rfl, .inl (SqL.of h1), by rw [← repL_len q1]; exact fin _ H Keep.refl pk rfl⟩
  · obtain ⟨v, _, rfl, rx, hz⟩ := rs
    obtain rfl := hz
    obtain ⟨a, us, rfl, h0, h1, q1⟩ := rx
    exact ⟨a, us, rfl, .inr (SqT.of h1), by rw [← repL_len q1]; exact fin _ H Keep.refl pk rfl⟩
  · exact fin.elim
/-- a built-in type's name -/
def tag : D → Option String
  | .non => some "NoneType"
  | .bl _ => some "bool"
  | .int _ => some "int"
  | .str _ => some "str"
  | .lst _ => some "list"
  | .tup _ => some "tuple"
  | .pen => some "dict"
  | _ => none
theorem tag_ok {p : Fm} {H : Hp} {s : Pen} (pk : PenOk p H s) : ∀ {d : D} {v : V} {n : String}, Rep G p H d v → tag d = some n → TyX K H v (.type n) := by
  intro d v n r e
  cases d <;> cases e
  · rw [(show v = _ from r)]; exact .base .non
  · rw [(show v = _ from r)]; exact .base (.bl _)
  · rw [(show v = _ from r)]; exact .base (.int _)
  · rw [(show v = _ from r)]; exact .base (.str _)
  · obtain ⟨a, us, rfl, h0, h1, q1⟩ := r; exact .base (.lst h1)
  · obtain ⟨a, us, rfl, h0, h1, q1⟩ := r; exact .base (.tup h1)
  · obtain ⟨a, e, rfl⟩ := r
    obtain ⟨c, _, h1, _⟩ := pk.1 a e
    exact .base (.dK h1)
def subT (a b : String) : Bool := a == b || (a == "bool" && b == "int")
def isiB (ds : List D) : M D := match ds with
  | [x, .ty T] => (match tag x with
    | some a => if decide (kitB a T = some (subT a T)) = true then mret (.bl (subT a T)) else mbad
    | none => mbad)
  | _ => mbad
theorem prim_isiB : PrimL G (rIsi K) isiB := by
  intro W p σ H s xs vs Q pk rs fin
  unfold isiB at fin
  split at fin
  · rename_i x T
    obtain ⟨v, _, rfl, rx, w, _, rfl, ry, hz⟩ := rs
    obtain rfl := hz
    obtain rfl : w = .ty T := ry
    cases h : tag x with
    | none => rw [h] at fin; exact False.elim fin
    | some a =>
      rw [h] at fin
      dsimp only at fin
      split at fin
      · rename_i hk
        exact ⟨v, .ty T, .type a, .type T, _, rfl, .ty T, tag_ok pk rx h, kit_ty (of_decide_eq_true hk), fin _ H Keep.refl pk rfl⟩
      · exact False.elim fin
  · exact False.elim fin

/-! ### a def -/
def startL (nl : Nat) (ds : List D) : Loc := ds.map some ++ List.replicate (nl - ds.length) none
def mdef (nl : Nat) (b : MS) (ds : List D) : M D := fun s => match b (startL nl ds) s with
  | .nx _ s' => .ok .non s'
  | .ret d s' => .ok d s'
  | .exc c ns xs _ s' => .exc c ns xs s'
  | _ => .bad
theorem env_start {p : Fm} {H : Hp} {N : List Str} {ds : List D} {vs : List V} (r : RepL G p H ds vs) : EnvOk G p H (L2.start N vs) (startL N.length ds) := by
  have hl := repL_len r
  refine ⟨by unfold L2.start startL; simp [hl], fun i d h => ?_⟩
  unfold startL at h
  unfold L2.start
  by_cases hi : i < ds.length
  · rw [List.getElem?_append_left (by simpa using hi), List.getElem?_map] at h
    cases q : ds[i]? with
    | none => rw [q] at h; cases h
    | some x =>
      rw [q] at h
      cases h
      obtain ⟨v, h1, h2⟩ := repL_get r q
      exact ⟨v, by rw [List.getElem?_append_left (by rw [List.length_map]; omega), List.getElem?_map, h1]; rfl, h2⟩
  · rw [List.getElem?_append_right (by simpa using hi), List.getElem?_replicate] at h
    split at h <;> cases h
variable {P : Program} {w : World} {mg : Str → Option Value} {base : Heap}
theorem ok_def {x qual : Str} {st : Stmt} {f : Addr} {fd : FuncData} {N ps : List Str} {k n : Nat} {b : MS} (F : Fun K x qual st f fd) (S : FnScope N ps (defScope st)) (hn : ps.length = n)
    (hb : ∀ (cdv : Value) (A : Around) (outer : List Env) (s : Shared) (H : Hp) (E : XK), Room k (A.deeper (envOfC qual (defScope st) s.heap.objs.size f cdv)) →
      ∃ t, DSs G (cxOf (L2.CX P w) P w K mg base N qual (defScope st) f cdv A outer s H E) (fun c d _ H' => E c d H') (defBody st) t b) :
    FnOk P w K mg base (L2.CX P w) (k + 1) f fd ps (spM G n (mdef N.length b)) := by
  refine F.okX S (fun vs H Q E h => by rw [h.1, hn]) fun cdv A outer s H vs Q E hr h => ?_
  obtain ⟨t, dt⟩ := hb cdv A outer s H E hr
  refine ⟨t, dt.ps, ?_⟩
  obtain ⟨_, p, ds, s1, rs, pk, fin⟩ := h
  refine dt.run p _ H (startL N.length ds) s1 _ (env_start rs) pk ?_
  unfold mdef at fin
  cases q : b (startL N.length ds) s1 with
  | nx ρ s' => rw [q] at fin; exact fun σ' H' k pk' _ => fin _ H' k pk' rfl
  | ret d s' => rw [q] at fin; exact fun v H' k pk' rd => fin v H' k pk' rd
  | exc c ns xs ρ s' => rw [q] at fin; exact fun dd σ' H' k pk' _ x => fin dd H' k pk' x
  | bk ρ s' => rw [q] at fin; exact False.elim fin
  | ct ρ s' => rw [q] at fin; exact False.elim fin
  | bad => rw [q] at fin; exact False.elim fin

/-! ### raise C() of an own class whose __init__ does nothing -/
def spNo : Sp := fun vs H Q _ => ∃ a, vs = [.ref a] ∧ Q .non H
theorem ok_noinit {qual : Str} {st : Stmt} {f : Addr} {fd : FuncData} {pos : Pos} (F : Fun K "__init__" qual st f fd) (S : FnScope ["self"] ["self"] (defScope st)) (hb : defBody st = [.Pass pos]) : FnOk P w K mg base (L2.CX P w) 1 f fd ["self"] spNo := by
  refine F.okX S (fun vs H Q E h => by obtain ⟨a, rfl, _⟩ := h; rfl) fun cdv A outer s H vs Q E hr h => ?_
  obtain ⟨a, rfl, q⟩ := h
  exact ⟨_, by rw [hb]; exact pss_one ps_pass, q⟩
theorem no_dict {pins : List (Addr × Obj)} {σ : L2.St} {H1 H2 : Hp} {hp hp2 h2 : Heap} {g1 g2 : Array GenState} {d1 d2 : Drawn} {t1 t2 : Nat} {os1 os2 : OsState} {a C : Addr} (I1 : Inv X pins σ H1 ⟨hp, g1, d1, t1, os1⟩)
    (ha : hp.objs.size ≤ a) (k : ∀ b o, hp.get? b = some o → hp2.get? b = some o) (un : Un (frs X.stack) [] (upd H1 a (exo a C none)) H2 hp2 h2) (hok : HOk X.prog X.w H2 h2) (ho : os2 = os1) (hb : AllBare g2) (ea : H2 a = some (exo a C none)) :
    ∃ (t0 : Addr) (Gp : Heap), Inv X pins σ (del H2 a) ⟨Gp, g2, d2, t2, os2⟩ ∧ (∀ b o, Gp.get? b = some o → h2.get? b = some o) ∧ Gp.get? a = none ∧
      h2.get? a = some ({ cls := .ref C, dict := none, data := .fields #[.ref t0, .none, .none, .none, .bool false, .none] } : Obj) := by
  obtain ⟨t0, hoe⟩ := exo_at hok ea
  have hn : H1 a = none := I1.hok.fresh ha
  obtain ⟨Gp, r1, r2⟩ := restrict h2 fun b => decide (b ≠ a)
  have gk : ∀ b, b ≠ a → Gp.get? b = h2.get? b := fun b z => r1 b (decide_eq_true z)
  have ge : Gp.get? a = none := r2 a (by simp)
  have nha : ∀ {b : Addr} {o : Obj}, hp.get? b = some o → b ≠ a := fun {b o} z => Nat.ne_of_lt (Nat.lt_of_lt_of_le (Heap.lt_size z) ha)
  have up1 : ∀ {b : Addr}, b ≠ a → H1 b = none → upd H1 a (exo a C none) b = none := fun {b} z n => (upd_ne z).trans n
  have U : Un (frs X.stack) [] H1 (del H2 a) hp Gp := by
    refine ⟨fun b o z n hf hx => (gk b (nha z)).trans (un.keep b o (k b o z) (up1 (nha z) n) hf hx), fun b o z n hf hx => ?_, fun b o z n hx => (del_ne (nha z)).trans (un.free b o (k b o z) (up1 (nha z) n) hx), fun b o z hx => ?_, fun b xs z => ?_, fun b o v z => ?_, fun b ps z => ?_⟩
    · obtain ⟨sl, e⟩ := un.slot b o (k b o z) (up1 (nha z) n) hf hx
      exact ⟨sl, (gk b (nha z)).trans e⟩
    · obtain ⟨o', e⟩ := un.there b o (k b o z) hx
      exact ⟨o', (gk b (nha z)).trans e⟩
    · exact (del_ne (ne_of_none z hn)).trans (un.tups b xs ((upd_ne (ne_of_none z hn)).trans z))
    · exact (del_ne (ne_of_none z hn)).trans (un.frzs b o v ((upd_ne (ne_of_none z hn)).trans z))
    · obtain ⟨more, e⟩ := un.tbls b ps ((upd_ne (ne_of_none z hn)).trans z)
      exact ⟨more, (del_ne (ne_of_none z hn)).trans e⟩
  have hok3 : HOk X.prog X.w (del H2 a) Gp := fun b o z => by
    have hba : b ≠ a := fun e => by
      rw [e, del_same] at z
      cases z
    rw [del_ne hba] at z
    have noa : ∀ {c : Addr}, H2 c = some (.own b) → c ≠ a := fun {c} hc => at_ne ea hc exo_own
    refine (hok b o z).stay (fun c v hc y => ?_) (fun c hc => (del_ne (noa hc)).trans hc) fun c xs hc => (del_ne (at_ne ea hc exo_tup)).trans hc
    have hca : c ≠ a := hc.elim (fun e => by rw [e]; exact hba) noa
    exact (gk c hca).trans y
  refine ⟨t0, Gp, I1.call' (ch := []) ho U hok3 hb (fun b z => absurd z (by simp)), fun b o z => ?_, ge, hoe⟩
  by_cases hba : b = a
  · rw [hba, ge] at z
    cases z
  · exact (gk b hba).symm.trans z
theorem pmk_no {x : Str} {C fI : Addr} {fd : FuncData} {p0 pos : Pos} (T : OexC X.K C) (iC : PySem.W.findIn X.K (.ref C) "__init__" = some (some (.ref fI))) (tI : PySem.W.typeIn X.K (.ref fI) = some (.type "function"))
    (F1 : FnOk X.prog X.w X.K X.mg X.base (L2.CX X.prog X.w) 1 fI fd ["self"] spNo) (hr : Room 2 X.A) (hb : Binds X.K fd ["self"] []) (hg : Gl X x) (hm : X.mg x = some (.ref C)) (hdb : (x == ("__debug__" : Str)) = false := by decide) :
    PMk X (.Call (.Name x p0) [] [] pos) (fun _ H Q => ∀ H', (∀ b o, H b = some o → H' b = some o) → Q (.ref C) none H') := by
  intro pins s σ H Q I h
  obtain ⟨nm, q, N, bs, bm, sn, sub, ab, col, dd, k0, k1, k2, k3, k5, hC, hbm⟩ := T.cls
  refine wpAny_Call_Name_kw (ld_glob I hg hm (PySem.W.callWith_K0 I.kIn T.kC ?_) hdb)
  show wpAny _ _ (call (.ref C) []) _ _ _
  obtain ⟨hp, g, dr, tk, os⟩ := s
  have hsz : hp.objs.size ≤ hp.objs.size + 1 := Nat.le_succ _
  have hn : H (hp.objs.size + 1) = none := I.hok.fresh hsz
  have kk : ∀ b o, hp.get? b = some o → ((hp.push (PySem.W.kdv_tup [])).push (PySem.HandSPX.excO C hp.objs.size)).get? b = some o := fun b o e => Heap.get?_push_of_some _ (Heap.get?_push_of_some _ e)
  have hget : ((hp.push (PySem.W.kdv_tup [])).push (PySem.HandSPX.excO C hp.objs.size)).get? (hp.objs.size + 1) = some (PySem.HandSPX.excO C hp.objs.size) := by heap_get
  have I2 : Inv X pins σ (upd H (hp.objs.size + 1) (exo (hp.objs.size + 1) C none)) ⟨(hp.push (PySem.W.kdv_tup [])).push (PySem.HandSPX.excO C hp.objs.size), g, dr, tk, os⟩ :=
    I.laid (t' := tk) (a := hp.objs.size + 1) (o := exo (hp.objs.size + 1) C none) (h' := (hp.push (PySem.W.kdv_tup [])).push (PySem.HandSPX.excO C hp.objs.size)) kk hsz (exo_ok hget)
  have hq : spNo [V.ref (hp.objs.size + 1)] (upd H (hp.objs.size + 1) (exo (hp.objs.size + 1) C none)) (fun v H2 => v = .non ∧ H2 = upd H (hp.objs.size + 1) (exo (hp.objs.size + 1) C none)) (fun _ _ _ => False) := ⟨_, rfl, rfl, rfl⟩
  have hbb := hb ⟨(hp.push (PySem.W.kdv_tup [])).push (PySem.HandSPX.excO C hp.objs.size), g, dr, tk, os⟩ [Value.ref (hp.objs.size + 1)] I2.kIn rfl
  rw [List.append_nil] at hbb
  refine wpAny_call (PySem.HandSPX.call_own F.excBase_ValueError (fun Y => PySem.HandSPX.refsVE_contains Y bm hbm) (I.kIn _ _ hC) (PySem.W.looks_findIn I.kIn iC) (fun self => PySem.W.bind_fn I.kIn self tI) (by show 0 ≤ sizeLine; exact Nat.zero_le _)
    (codeAny_mono (F1.run _ X.stack _ _ ⟨[Value.ref (hp.objs.size + 1)], []⟩ [Value.ref (hp.objs.size + 1)] [V.ref (hp.objs.size + 1)] _ (fun _ _ _ => False) (hr.make C [] []) (I2.env0.make C [] []) hbb (.cons rfl .nil) hq) fun r s' hq' => ?_))
  cases r with
  | error er => exact False.elim (by obtain ⟨_, _, _, _, _, _, _, _, _, _, _, _, z⟩ := hq'; exact z)
  | ok fl =>
    cases fl with
    | ret u =>
      obtain ⟨v, H2, os2, bare2, un2, hok2, rv, ev, eH⟩ := hq'
      subst ev eH
      obtain ⟨h2, g2, d2, t2, os'⟩ := s'
      obtain ⟨t0, Gp, J, kG, ge, hoe⟩ := no_dict (d2 := d2) (t2 := t2) I hsz kk un2 hok2 os2 bare2 upd_same
      refine ⟨rv, hp.objs.size + 1, _, _, ⟨Gp, g2, d2, t2, os'⟩, _, .ref C, none, rfl, J, kG, ge, hoe, ⟨rfl, rfl⟩, rfl, rfl, del_same, rfl, bare2, raises_own T.exC T.tyC, h _ fun b o e => ?_⟩
      rw [del_ne (ne_of_none e hn), upd_ne (ne_of_none e hn)]
      exact e
    | next => exact False.elim hq'
    | brk => exact False.elim hq'
    | cont => exact False.elim hq'
theorem ds_raise0 {c : Nat} {e : Expr} {pos : Pos} (hc : X.calm = true) (tk : Takes X W) (hp : PMk X e (fun _ H Q => ∀ H', (∀ b o, H b = some o → H' b = some o) → Q (.ref (G.cls c)) none H')) :
    DS G X W (.Raise (some e) none pos) (fun _ σ H => ∀ H', (∀ b o, H b = some o → H' b = some o) → W (.ref (G.cls c)) none σ H') (fun ρ s => .exc c [] [] ρ s) := by
  refine ⟨ps_raise hc tk hp, fun p σ H ρ s Z e pk fin H' k => ?_⟩
  have kp : Keep p H H' := fun a o _ h => k a o h
  have pk' : PenOk p H' s := by
    refine ⟨fun b eb => ?_, fun b hb => ?_⟩
    · obtain ⟨c, h0, h1, h2⟩ := pk.1 b eb
      exact ⟨c, h0, k _ _ h1, k _ _ h2⟩
    · obtain ⟨o, h1⟩ := pk.2 b hb
      exact ⟨o, k _ _ h1⟩
  exact fin none σ H' kp pk' (e.keep pk.at kp) ⟨[], rfl, .inl ⟨rfl, rfl⟩⟩
end
end Tw

set_option Elab.async false
set_option linter.all false
set_option maxRecDepth 100000
set_option maxHeartbeats 4000000
set_option autoImplicit false
namespace Tw
open PySem L2 PySem.Spec PyProof.Rows
section
variable {K : PySem.W.Frag} {G : Gt} {W : WX} {X : Cx}
/-! ### try .. except -/
def sTry (mb : MS) (mt : Nat → Option Bool) (hm : Nat → List Str → List D → MS) : MS := fun ρ s => match mb ρ s with
  | .exc c ns xs ρ' s' => (match mt c with
    | some true => hm c ns xs ρ' s'
    | some false => .exc c ns xs ρ' s'
    | none => .bad)
  | .nx ρ' s' => .nx ρ' s'
  | .ret d s' => .ret d s'
  | .bk ρ' s' => .bk ρ' s'
  | .ct ρ' s' => .ct ρ' s'
  | .bad => .bad
abbrev W0 : WX := fun _ _ _ _ => False
/-- a block's own reading, within a try; within an except suite -/
def tOwn (X : Cx) (body : List Stmt) (W' : WX) : TS := fun Z σ H => ∀ (pn : List (Addr × Obj)) (xe : Value → Shared → Prop), Takes (X.tr pn xe) W' → PassesOwn (model X.prog X.w) X.A X.env xe →
  ∀ (pins : List (Addr × Obj)) (s : Shared), L2.Inv (X.tr pn xe) pins σ H s → wpAny (model X.prog X.w) X.A (execs body X.env) (SP (X.tr pn xe) pins Z) xe s
def tSui (X : Cx) (su : List Stmt) (a : Addr) (cls : Value) (d : Option Addr) : TS := fun Z σ H => ∀ (oe : Obj) (pn : List (Addr × Obj)), Zc cls d oe → (∃ vs, oe.data = .fields vs) →
  ∀ (pins : List (Addr × Obj)) (s : Shared), L2.Inv (X.suite a ((a, oe) :: pn)) pins σ H s → wpAny (model X.prog X.w) (X.suite a ((a, oe) :: pn)).A (execs su X.env) (SP (X.suite a ((a, oe) :: pn)) pins Z) (fun _ _ => False) s
variable {x n : Str} {T : Nat} {body suite : List Stmt} {b₀ : Stmt} {np pos pos' : Pos} {mb : MS} {mt : Nat → Option Bool} {hm : Nat → List Str → List D → MS}
theorem own_run (hb : ∀ (W' : WX) (pn : List (Addr × Obj)) (xe : Value → Shared → Prop), Takes (X.tr pn xe) W' → PassesOwn (model X.prog X.w) X.A X.env xe → ∃ t, DSs G (X.tr pn xe) W' body t mb) (W' : WX) : RunS G W' (tOwn X body W') mb := by
  intro p σ H ρ s Z e pk fin pn xe tk po pins s1 I
  obtain ⟨t, dt⟩ := hb W' pn xe tk po
  exact dt.ps.run pins s1 σ H Z I (dt.run p σ H ρ s Z e pk fin)
theorem ds_try_only (hs : X.stack = X.env :: X.outer) (hf : X.env.frame = some X.env.locals) (hc : Names X x (.ref (G.cls T))) (tk : Takes X W) (hmt : ∀ c b, mt c = some b → PySem.W.exmOne X.K (.ref (G.cls c)) (.ref (G.cls T)) = some b)
    (hb : ∀ (W' : WX) (pn : List (Addr × Obj)) (xe : Value → Shared → Prop), Takes (X.tr pn xe) W' → PassesOwn (model X.prog X.w) X.A X.env xe → ∃ t, DSs G (X.tr pn xe) W' body t mb)
    (hsu : ∀ (a : Addr) (oe : Obj) (c : Nat) (ns : List Str) (xs : List D) (dd : Option Addr) (pn : List (Addr × Obj)), mt c = some true → Zc (.ref (G.cls c)) dd oe → (∃ vs, oe.data = .fields vs) → ∃ t, DSs G (X.suite a ((a, oe) :: pn)) W0 (b₀ :: suite) t (hm c ns xs)) :
    ∃ t, DS G X W (.Try body [.ExceptHandler (some (.Name x np)) none (b₀ :: suite) pos'] [] [] pos) t (sTry mb mt fun c ns xs ρ s => match hm c ns xs ρ s with | .exc _ _ _ _ _ => .bad | o => o) := by
  refine ⟨_, ps_try_only (tb := tOwn X body) (ts := tSui X (b₀ :: suite)) hs hf hc tk (fun W' pn xe tk' po => ⟨fun pins s σ H Z I h => h pn xe tk' po pins s I⟩) (fun a oe cls d pn hz hv => ⟨fun pins s σ H Z I h => h oe pn hz hv pins s I⟩), ?_⟩
  intro p σ H ρ s Z e pk fin
  refine own_run hb _ p σ H ρ s Z e pk ?_
  unfold sTry at fin
  cases q : mb ρ s with
  | nx ρ' s' => rw [q] at fin; exact fin
  | ret d s' => rw [q] at fin; exact fin
  | bk ρ' s' => rw [q] at fin; exact fin
  | ct ρ' s' => rw [q] at fin; exact fin
  | bad => rw [q] at fin; exact fin
  | exc c ns xs ρ' s' =>
    rw [q] at fin
    dsimp only at fin
    cases q2 : mt c with
    | none => rw [q2] at fin; exact False.elim fin
    | some b =>
      rw [q2] at fin
      intro dd σ' H' k' pk' e' x'
      refine ⟨b, hmt c b q2, fun hbt => ?_, fun hbf => ?_⟩
      · subst hbt
        intro a ha oe pn hz hv pins s1 I
        obtain ⟨t, dt⟩ := hsu a oe c ns xs dd pn q2 hz hv
        refine dt.ps.run pins s1 σ' H' Z I (dt.run p σ' H' ρ' s' Z e' pk' ?_)
        dsimp only at fin
        cases q3 : hm c ns xs ρ' s' with
        | exc c2 ns2 xs2 ρ2 s2 => rw [q3] at fin; exact False.elim fin
        | nx ρ2 s2 => rw [q3] at fin; exact fun σ2 H2 k2 => fin σ2 H2 (k'.trans k2)
        | ret d s2 => rw [q3] at fin; exact fun v H2 k2 => fin v H2 (k'.trans k2)
        | bk ρ2 s2 => rw [q3] at fin; exact fun σ2 H2 k2 => fin σ2 H2 (k'.trans k2)
        | ct ρ2 s2 => rw [q3] at fin; exact fun σ2 H2 k2 => fin σ2 H2 (k'.trans k2)
        | bad => rw [q3] at fin; exact False.elim fin
      · subst hbf
        exact fin dd σ' H' k' pk' e' x'

mutual
def noErr : D → Bool
  | .err _ _ _ => false
  | .lst xs => noErrL xs
  | .tup xs => noErrL xs
  | .ins _ _ xs => noErrL xs
  | _ => true
def noErrL : List D → Bool
  | [] => true
  | d :: ds => noErr d && noErrL ds
end
/-! data without an exception is the same whatever is handled -/
mutual
theorem rep_swap {G' : Gt} {p : Fm} {H : Hp} (hc : G'.cls = G.cls) : ∀ (d : D) (v : V), noErr d = true → Rep G p H d v → Rep G' p H d v
  | .non, _, _, h => h
  | .bl _, _, _, h => h
  | .int _, _, _, h => h
  | .str _, _, _, h => h
  | .ty _, _, _, h => h
  | .cls n, v, _, h => by show v = .ref (G'.cls n); rw [hc]; exact h
  | .pen, _, _, h => h
  | .lst ds, v, e, h => by
    obtain ⟨a, vs, e1, q0, q1, q2⟩ := h
    exact ⟨a, vs, e1, q0, q1, repL_swap hc ds vs e q2⟩
  | .tup ds, v, e, h => by
    obtain ⟨a, vs, e1, q0, q1, q2⟩ := h
    exact ⟨a, vs, e1, q0, q1, repL_swap hc ds vs e q2⟩
  | .ins n ns ds, v, e, h => by
    obtain ⟨a, dx, vs, e1, q0, q1, q3, q2⟩ := h
    exact ⟨a, dx, vs, e1, q0, by rw [hc]; exact q1, q3, repL_swap hc ds vs e q2⟩
  | .err _ _ _, _, e, _ => by cases e
theorem repL_swap {G' : Gt} {p : Fm} {H : Hp} (hc : G'.cls = G.cls) : ∀ (ds : List D) (vs : List V), noErrL ds = true → RepL G p H ds vs → RepL G' p H ds vs
  | [], _, _, h => h
  | d :: ds, vs, e, h => by
    obtain ⟨v, r, e1, q1, q2⟩ := h
    have e' : (noErr d && noErrL ds) = true := e
    rw [Bool.and_eq_true] at e'
    exact ⟨v, r, e1, rep_swap hc d v e'.1 q1, repL_swap hc ds r e'.2 q2⟩
end
mutual
theorem noErr_of {p : Fm} {H : Hp} (hn : G.err = none) : ∀ (d : D) (v : V), Rep G p H d v → noErr d = true
  | .non, _, _ => rfl
  | .bl _, _, _ => rfl
  | .int _, _, _ => rfl
  | .str _, _, _ => rfl
  | .ty _, _, _ => rfl
  | .cls _, _, _ => rfl
  | .pen, _, _ => rfl
  | .lst ds, v, h => by
    obtain ⟨a, vs, e1, q0, q1, q2⟩ := h
    exact noErrL_of hn ds vs q2
  | .tup ds, v, h => by
    obtain ⟨a, vs, e1, q0, q1, q2⟩ := h
    exact noErrL_of hn ds vs q2
  | .ins n ns ds, v, h => by
    obtain ⟨a, dx, vs, e1, q0, q1, q3, q2⟩ := h
    exact noErrL_of hn ds vs q2
  | .err _ _ _, _, h => by
    obtain ⟨a, dd, vs, _, q, _⟩ := h
    rw [hn] at q
    cases q
theorem noErrL_of {p : Fm} {H : Hp} (hn : G.err = none) : ∀ (ds : List D) (vs : List V), RepL G p H ds vs → noErrL ds = true
  | [], _, _ => rfl
  | d :: ds, vs, h => by
    obtain ⟨v, r, e1, q1, q2⟩ := h
    show (noErr d && noErrL ds) = true
    rw [noErr_of hn d v q1, noErrL_of hn ds r q2]
    all_goals rfl
end
def cleanD (o : Option D) : Option D := match o with
  | some d => if noErr d = true then some d else none
  | none => none
def clean (ρ : Loc) : Loc := ρ.map cleanD
theorem EnvOk.clean {G' : Gt} {p : Fm} {H : Hp} {σ : L2.St} {ρ : Loc} (hc : G.cls = G'.cls) (e : EnvOk G' p H σ ρ) : EnvOk G p H σ (clean ρ) := by
  refine ⟨by unfold Tw.clean; rw [List.length_map]; exact e.1, fun i d h => ?_⟩
  unfold Tw.clean at h
  rw [List.getElem?_map] at h
  cases q : ρ[i]? with
  | none => rw [q] at h; cases h
  | some o =>
    rw [q] at h
    cases o with
    | none => cases h
    | some x =>
      have h : some (if noErr x = true then some x else none) = some (some d) := h
      by_cases hx : noErr x = true
      · rw [if_pos hx] at h
        cases h
        obtain ⟨v, h1, h2⟩ := e.2 i d q
        exact ⟨v, h1, rep_swap hc d v hx h2⟩
      · rw [if_neg hx] at h; cases h
theorem EnvOk.err {p : Fm} {H : Hp} {σ : L2.St} {ρ : Loc} {G' : Gt} (hn : G.err = none) (hc : G'.cls = G.cls) (e : EnvOk G p H σ ρ) : EnvOk G' p H σ ρ :=
  ⟨e.1, fun i d h => let ⟨v, h1, h2⟩ := e.2 i d h; ⟨v, h1, rep_swap hc d v (noErr_of hn d v h2) h2⟩⟩
theorem EnvOk.unset {p : Fm} {H : Hp} {σ : L2.St} {ρ : Loc} {i : Nat} (e : EnvOk G p H σ ρ) : EnvOk G p H (σ.set i none) (ρ.set i none) := by
  refine ⟨by simp [e.1], fun j x hx => ?_⟩
  rw [List.getElem?_set] at hx
  by_cases hij : i = j
  · subst hij
    simp only [if_true] at hx
    split at hx <;> cases hx
  · rw [if_neg hij] at hx
    obtain ⟨u, h1, h2⟩ := e.2 j x hx
    exact ⟨u, by rw [List.getElem?_set, if_neg hij]; exact h1, h2⟩
/-- behind the suite of «except X as n» -/
def backOf (i : Nat) (o : OutS) : OutS := match o with
  | .nx ρ s => .nx (clean (ρ.set i none)) s
  | .ret d s => if noErr d = true then .ret d s else .bad
  | .bk ρ s => .bk (clean (ρ.set i none)) s
  | .ct ρ s => .ct (clean (ρ.set i none)) s
  | _ => .bad
abbrev Gt.at (G : Gt) (a : Addr) (c : Nat) (dd : Option Addr) : Gt := ⟨G.cls, some (a, c, dd)⟩
theorem ds_try_as {i : Nat} {nf : Nat → Bool} {hs1 : Nat → MS} (hn : G.err = none) (hs : X.stack = X.env :: X.outer) (hf : X.env.frame = some X.env.locals) (hN : X.N.Nodup) (hi : X.N[i]? = some n) (hln : X.env.kindOf n = some .local) (hc : Names X x (.ref (G.cls T))) (tk : Takes X W) (hmt : ∀ c b, mt c = some b → PySem.W.exmOne X.K (.ref (G.cls c)) (.ref (G.cls T)) = some b)
    (hb : ∀ (W' : WX) (pn : List (Addr × Obj)) (xe : Value → Shared → Prop), Takes (X.tr pn xe) W' → PassesOwn (model X.prog X.w) X.A X.env xe → ∃ t, DSs G (X.tr pn xe) W' body t mb)
    (hsu : ∀ (a : Addr) (oe : Obj) (c : Nat) (dd : Option Addr) (pn : List (Addr × Obj)), mt c = some true → (nf c = true → dd = none) → Zc (.ref (G.cls c)) dd oe → (∃ vs, oe.data = .fields vs) → ∃ t, DSs (G.at a c dd) (X.suite a ((a, oe) :: pn)) W0 (b₀ :: suite) t (hs1 c)) :
    ∃ t, DS G X W (.Try body [.ExceptHandler (some (.Name x np)) (some n) (b₀ :: suite) pos'] [] [] pos) t (sTry mb mt fun c ns xs ρ s => if (nf c && !ns.isEmpty) = true then .bad else backOf i (hs1 c (ρ.set i (some (.err c ns xs))) s)) := by
  refine ⟨_, ps_try_as (tb := tOwn X body) (ts := tSui X (b₀ :: suite)) hs hf hN hi hln hc tk (fun W' pn xe tk' po => ⟨fun pins s σ H Z I h => h pn xe tk' po pins s I⟩) (fun a oe cls d pn hz hv => ⟨fun pins s σ H Z I h => h oe pn hz hv pins s I⟩), ?_⟩
  intro p σ H ρ s Z e pk fin
  refine own_run hb _ p σ H ρ s Z e pk ?_
  unfold sTry at fin
  cases q : mb ρ s with
  | nx ρ' s' => rw [q] at fin; exact fin
  | ret d s' => rw [q] at fin; exact fin
  | bk ρ' s' => rw [q] at fin; exact fin
  | ct ρ' s' => rw [q] at fin; exact fin
  | bad => rw [q] at fin; exact fin
  | exc c ns xs ρ' s' =>
    rw [q] at fin
    dsimp only at fin
    cases q2 : mt c with
    | none => rw [q2] at fin; exact False.elim fin
    | some b =>
      rw [q2] at fin
      intro dd σ' H' k' pk' e' x'
      refine ⟨b, hmt c b q2, fun hbt => ?_, fun hbf => ?_⟩
      · subst hbt
        intro a ha oe pn hz hv pins s1 I
        obtain ⟨us, rus, xk⟩ := x'
        by_cases hnf : (nf c && !ns.isEmpty) = true
        · dsimp only at fin
          rw [if_pos hnf] at fin
          exact False.elim fin
        dsimp only at fin
        rw [if_neg hnf] at fin
        have hdd : nf c = true → dd = none := fun z => by
          rcases xk with z2 | ⟨b, gs, e0, _⟩
          · exact z2.2
          · refine absurd ?_ hnf
            rw [z]
            cases ns with
            | nil => exact absurd rfl e0
            | cons _ _ => rfl
        obtain ⟨t, dt⟩ := hsu a oe c dd pn q2 hdd hz hv
        have rx : Rep (G.at a c dd) p H' (.err c ns xs) (.ref a) := ⟨a, dd, us, rfl, rfl, repL_swap (G := G) (G' := G.at a c dd) rfl xs us (noErrL_of hn xs us rus) rus, xk⟩
        refine dt.ps.run pins s1 _ H' _ I (dt.run p _ H' (ρ'.set i (some (.err c ns xs))) s' _ ((EnvOk.err (G' := G.at a c dd) hn rfl e').set rx) pk' ?_)
        cases q3 : hs1 c (ρ'.set i (some (.err c ns xs))) s' with
        | exc c2 ns2 xs2 ρ2 s2 => rw [q3] at fin; exact False.elim fin
        | nx ρ2 s2 => rw [q3] at fin; exact fun σ2 H2 k2 pk2 e2 => fin _ H2 (k'.trans k2) pk2 (EnvOk.clean (G := G) (G' := G.at a c dd) rfl e2.unset)
        | bk ρ2 s2 => rw [q3] at fin; exact fun σ2 H2 k2 pk2 e2 => fin _ H2 (k'.trans k2) pk2 (EnvOk.clean (G := G) (G' := G.at a c dd) rfl e2.unset)
        | ct ρ2 s2 => rw [q3] at fin; exact fun σ2 H2 k2 pk2 e2 => fin _ H2 (k'.trans k2) pk2 (EnvOk.clean (G := G) (G' := G.at a c dd) rfl e2.unset)
        | ret d s2 =>
          rw [q3] at fin
          have fin : FinS G W p H Z (if noErr d = true then .ret d s2 else .bad) := fin
          by_cases hd : noErr d = true
          · rw [if_pos hd] at fin
            exact fun v H2 k2 pk2 rd => fin v H2 (k'.trans k2) pk2 (rep_swap (G := G.at a c dd) (G' := G) rfl d v hd rd)
          · rw [if_neg hd] at fin; exact False.elim fin
        | bad => rw [q3] at fin; exact False.elim fin
      · subst hbf
        exact fin dd σ' H' k' pk' e' x'
/-- isinstance(n, C), n the exception that is handled, without fields -/
def isiE (ans : Nat → Option Bool) (d : D) : M D := match d with
  | .err c _ _ => (match ans c with
    | some b => mret (.bl b)
    | none => mbad)
  | _ => mbad
theorem de_isE {a : Addr} {oe : Obj} {pn : List (Addr × Obj)} {c T' : Nat} {ans : Nat → Option Bool} {p0 : Pos} {xn cn : Str} {p1 p2 : Pos} {i : Nat} (C : ExcC X.K (G.cls c)) (hz : Zc (.ref (G.cls c)) none oe) (hf : ∃ vs, oe.data = .fields vs)
    (ha : ∀ b, ans c = some b → PySem.W.kitOne X.K (.ref (G.cls c)) (.ref (G.cls T')) = some b)
    (hg : Gl (X.suite a ((a, oe) :: pn)) "isinstance") (hmI : X.mg "isinstance" = none) (hgc : Gl (X.suite a ((a, oe) :: pn)) cn) (hmc : X.mg cn = some (.ref (G.cls T')))
    (hx : DE (G.at a c none) (X.suite a ((a, oe) :: pn)) W0 (.Name xn p1) (tVar i) (mvar i)) (hdc : (cn == ("__debug__" : Str)) = false := by decide) :
    DE (G.at a c none) (X.suite a ((a, oe) :: pn)) W0 (.Call (.Name "isinstance" p0) [.Name xn p1, .Name cn p2] [] pos) (tCB (rIsE X.K (G.cls c) a) (tCons (tVar i) (tCons (tC (.ref (G.cls T'))) tNil))) (fun ρ => mbind (mvar i ρ) (isiE ans)) := by
  refine ⟨pe_callB (call_isE C hz hf) hg hmI (by decide +kernel) (pa_cons hx.pe (pa_cons (pe_glob hgc hmc rfl hdc) pa_nil)), fun p σ H ρ s Q e pk fin => ?_⟩
  refine hx.run p σ H ρ s _ e pk (fin.step fun d s1 v H1 k1 pk1 rd fin1 => ?_)
  unfold isiE at fin1
  cases d <;> first
    | exact False.elim fin1
    | skip
  rename_i c2 ns xs
  obtain ⟨a2, dd, us, rfl, q0, _⟩ := rd
  have q0' : (a, c, (none : Option Addr)) = (a2, c2, dd) := Option.some.inj q0
  obtain ⟨rfl, q1⟩ := Prod.mk.inj q0'
  obtain ⟨rfl, rfl⟩ := Prod.mk.inj q1
  dsimp only at fin1
  cases q : ans c with
  | none => rw [q] at fin1; exact False.elim fin1
  | some b =>
    rw [q] at fin1
    exact ⟨.ref (G.cls T'), .ref (G.cls T'), b, rfl, fun u r => r, ha b q, fin1 _ H1 Keep.refl pk1 rfl⟩
end
end Tw

set_option Elab.async false
set_option linter.all false
set_option maxRecDepth 100000
set_option maxHeartbeats 4000000
set_option autoImplicit false
namespace Tw
open PySem L2 PySem.Spec PyProof.Rows
section
variable {K : PySem.W.Frag} {G : Gt} {W : WX} {X : Cx}
/-! ### the pen's items -/
inductive Fl where
  | cells | next | digits | rest | seed | turn
def Fl.key : Fl → Str
  | .cells => "cells"
  | .next => "next"
  | .digits => "digits"
  | .rest => "rest"
  | .seed => "seed"
  | .turn => "turn"
def Pen.get (s : Pen) : Fl → D
  | .cells => .lst (s.cells.map D.int)
  | .next => .int s.next
  | .digits => .int s.digits
  | .rest => .int s.rest
  | .seed => .int s.seed
  | .turn => .int s.turn
def Pen.put (s : Pen) (f : Fl) (d : D) : Option Pen := match f, d with
  | .next, .int i => if decide (0 ≤ i) = true then some { s with next := i.toNat } else none
  | .digits, .int i => some { s with digits := i }
  | .rest, .int i => some { s with rest := i }
  | .seed, .int i => some { s with seed := i }
  | .turn, .int i => some { s with turn := i }
  | _, _ => none
theorem kne {a b : Str} (h : ¬ a = b) : ¬ (Sum.inr a : Key) = Sum.inr b := fun z => h (Sum.inr.inj z)
theorem val_pen (c : Addr) (s : Pen) (f : Fl) : valV (penKV c s) (Sum.inr f.key : Key) = some (match f with | .cells => .ref c | .next => .int s.next | .digits => .int s.digits | .rest => .int s.rest | .seed => .int s.seed | .turn => .int s.turn) := by
  cases f <;> rfl
theorem put_pen (c : Addr) (s s' : Pen) (f : Fl) (i : Int) (h : s.put f (.int i) = some s') : putK (penKV c s) (Sum.inr f.key : Key) (.int i) = penKV c s' := by
  cases f
  · cases h
  · have h : (if decide (0 ≤ i) = true then some { s with next := i.toNat } else none) = some s' := h
    by_cases hi : 0 ≤ i
    · rw [if_pos (decide_eq_true hi)] at h
      cases h
      have e : i = ((i.toNat : Nat) : Int) := (Int.toNat_of_nonneg hi).symm
      show putK (penKV c s) (Sum.inr "next" : Key) (.int i) = ([(Sum.inr "cells", .ref c), (Sum.inr "next", .int ((i.toNat : Nat) : Int)), (Sum.inr "digits", .int s.digits), (Sum.inr "rest", .int s.rest), (Sum.inr "seed", .int s.seed), (Sum.inr "turn", .int s.turn)] : List (Key × V))
      rw [← e]
      rfl
    · rw [if_neg (by simp [hi])] at h; cases h
  all_goals (cases h; rfl)

theorem rep_ints {p : Fm} {H : Hp} : ∀ ns : List Int, RepL G p H (ns.map D.int) (ns.map V.int)
  | [] => rfl
  | n :: ns => ⟨.int n, ns.map V.int, rfl, rfl, rep_ints ns⟩
/-- pen['f'] -/
def penGet (fe : Loc → M D) (f : Fl) : Loc → M D := fun ρ => mbind (fe ρ) fun d => fun s => match d with
  | .pen => .ok (s.get f) s
  | _ => .bad
variable {o : Expr} {to : TE} {fo fv : Loc → M D} {pos pos' : Pos} {j : Nat} {pk : Pos} {value : Expr} {tv : TE}
theorem de_penGet (f : Fl) (hu : X.A.units + 1 < cLine) (ho : DE G X W o to fo) {z : Str} (hz : z = f.key) : DE G X W (.Subscript o (.Constant (.str z) j pk) pos) (tDGet to (tC (.str z))) (penGet fo f) := by
  subst hz
  refine ⟨pe_dget hu ho.pe pe_str (fun _ _ => rfl), fun p σ H ρ s Q e pk fin => ?_⟩
  refine ho.run p σ H ρ s _ e pk (fin.step fun d s1 v H1 k1 pk1 rd fin1 => ?_)
  cases d <;> first
    | exact False.elim fin1
    | skip
  obtain ⟨a, ea, rfl⟩ := rd
  obtain ⟨c, hc, h1, h2⟩ := pk1.1 a ea
  have hg := DGet.k (k := (Sum.inr f.key : Key)) h1
  rw [val_pen] at hg
  refine ⟨a, _, rfl, hg, fin1 _ H1 Keep.refl pk1 ?_⟩
  cases f <;> first
    | rfl
    | exact ⟨c, _, rfl, hc, h2, rep_ints _⟩
/-- pen['f'] = v -/
def penPut (fo fv : Loc → M D) (f : Fl) : MS := fun ρ s => sof (fv ρ s) ρ fun d s1 => sof (fo ρ s1) ρ fun x s2 => match x with
  | .pen => (match s2.put f d with
    | some s3 => .nx ρ s3
    | none => .bad)
  | _ => .bad
theorem ds_penPut (f : Fl) (hu : X.A.units + 1 < cLine) (ho : DE G X W o to fo) (hv : DE G X W value tv fv) {z : Str} (hz : z = f.key) (hs : swapsWith value (some (.Subscript o (.Constant (.str z) j pk) pos')) pos.line X.env = pure false := by rfl) :
    DS G X W (.Assign [.Subscript o (.Constant (.str z) j pk) pos'] value pos) (sDPut to (tC (.str z)) tv) (penPut fo fv f) := by
  subst hz
  refine ⟨ps_dput hu ho.pe pe_str hv.pe hs, fun p σ H ρ s Z e pk fin => ?_⟩
  refine hv.run p σ H ρ s _ e pk (FinS.step fin (fun H1 s1 k1 pk1 => e.keep pk.at k1) fun d s1 v H1 k1 pk1 rd fin1 => ?_)
  have e1 := e.keep pk.at k1
  refine ho.run p σ H1 ρ s1 _ e1 pk1 (FinS.step fin1 (fun H2 s2 k2 pk2 => e1.keep pk1.at k2) fun x s2 vx H2 k2 pk2 rx fin2 => ?_)
  cases x <;> first
    | exact False.elim fin2
    | skip
  obtain ⟨a, ea, rfl⟩ := rx
  obtain ⟨c, hc, h1, h2⟩ := pk2.1 a ea
  dsimp only at fin2
  cases q : s2.put f d with
  | none => rw [q] at fin2; exact False.elim fin2
  | some s3 =>
    rw [q] at fin2
    have hi : ∃ i, d = .int i := by
      cases f <;> cases d <;> first
        | exact ⟨_, rfl⟩
        | cases q
    obtain ⟨i, rfl⟩ := hi
    obtain rfl : v = .int i := rd
    refine ⟨a, _, rfl, DPut.k (k := (Sum.inr f.key : Key)) h1 (by show 6 < sizeLine; decide), ?_⟩
    have hcell : s3.cells = s2.cells := by
      cases f <;> first
        | (cases q; rfl)
        | (cases q; done)
        | (have q : (if decide (0 ≤ i) = true then some { s2 with next := i.toNat } else none) = some s3 := q
           split at q
           · cases q; rfl
           · cases q)
    rw [put_pen c s2 s3 f i q]
    have hca : c ≠ a := ne_of h2 h1 (fun z => nomatch z)
    have kk : Keep p H2 (upd H2 a (.dK (penKV c s3))) := fun b u n eb => by
      rw [upd_ne (fun z => n (by rw [z]; exact ea))]; exact eb
    have pk3 : PenOk p (upd H2 a (.dK (penKV c s3))) s3 := by
      refine ⟨fun b eb => ?_, fun b hb => ?_⟩
      · have eab : a = b := Option.some.inj (ea.symm.trans eb)
        subst eab
        exact ⟨c, hc, upd_same, by rw [upd_ne hca, hcell]; exact h2⟩
      · by_cases z : b = a
        · subst z; exact ⟨_, upd_same⟩
        · rw [upd_ne z]; exact pk2.2 b hb
    exact fin2 σ _ kk pk3 ((e1.keep pk1.at k2).keep pk2.at kk)
end
end Tw

set_option Elab.async false
set_option linter.all false
set_option maxRecDepth 100000
set_option maxHeartbeats 4000000
set_option autoImplicit false
namespace Tw
open PySem L2 PySem.Spec PyProof.Rows
section
variable {K : PySem.W.Frag} {G : Gt} {W : WX} {X : Cx}
/-- // and % by any divisor but 0 -/
def CDivX (_ j : Int) : Prop := j ≠ 0 ∧ j.natAbs.log2 < 9000
theorem op_fdivX : OpR X (binaryOp .FloorDiv) (rI CDivX fun i j => .int (i.fdiv j)) := opI fun i j _ _ _ _ _ hc q => floordiv_int hc.1 q (.inl (PyProof.noPylong_of_log2 hc.2))
def fdvI : D → D → M D := int2c (fun _ j => decide (j ≠ 0 ∧ j.natAbs.log2 < 9000)) fun i j => .int (i.fdiv j)
def fmdI : D → D → M D := int2c (fun _ j => decide (j ≠ 0)) fun i j => .int (i.fmod j)
theorem prim_fdv : Prim2 G (rI CDivX fun i j => .int (i.fdiv j)) fdvI := prim_I (fun i j h => of_decide_eq_true (p := j ≠ 0 ∧ j.natAbs.log2 < 9000) h) fun _ _ _ _ => rfl
theorem prim_fmd : Prim2 G (rI (fun _ j => j ≠ 0) fun i j => .int (i.fmod j)) fmdI := prim_I (fun i j h => of_decide_eq_true (p := j ≠ 0) h) fun _ _ _ _ => rfl
theorem cr_isi (hK : X.K = K) : CallR X (.builtin "isinstance") (rIsi K) := by subst hK; exact call_isi
theorem cr_len (hK : X.K = K) : CallR X (.builtin "len") (fun xs H Q => ∃ p ys, xs = [.ref p] ∧ (SqL K H p ys ∨ SqT K H p ys) ∧ Q (.int ys.length) H) := by subst hK; exact call_len_seq
variable {a b c e : Expr} {ta te : TE} {fa fe : Loc → M D} {pos : Pos} {tA : TA} {fA : Loc → M (List D)}
theorem ds_setLc {i : Nat} {y : Str} {py spos : Pos} {tg iter elt : Expr} {ifs : List Expr} {scope : Scope} {own : List (Str × Nat)} {wi : TI} {g : TG} {gm : D → Loc → Option Loc} {fi : Loc → M (List D)} {tt : TT} {mt : Loc → M Bool} (hc : X.calm = true) (hN : X.N.Nodup) (hy : X.N[i]? = some y) (hyl : X.env.scope.names.lookup y = some .local)
    (hsw : swapsWith (.ListComp elt [⟨tg, iter, ifs, 0⟩] scope pos) (some (.Name y py)) spos.line X.env = pure true) (hi : DI G X W tg iter wi fi) (ok : BlkOk X.N X.env.scope scope own)
    (hg : ∀ (s : Shared) (H : Hp) (C : Addr) (cl : List (Str × Addr)) (fp : List Addr), DG G (X.blk s H scope (compEnvC scope cl C X.env) fp) (own.map (·.2)) tg g gm) (ht : ∀ (s : Shared) (H : Hp) (C : Addr) (cl : List (Str × Addr)) (fp : List Addr), PTs (X.blk s H scope (compEnvC scope cl C X.env) fp) ifs tt) (htr : RunG G W0 RelB tt mt)
    (he : ∀ (s : Shared) (H : Hp) (C : Addr) (cl : List (Str × Addr)) (fp : List Addr), DE G (X.blk s H scope (compEnvC scope cl C X.env) fp) W0 elt te fe) (hs : ∀ x, foldedSetIterable iter X.env x = pure x := by intro _; rfl) :
    DS G X W (.Assign [.Name y py] (.ListComp elt [⟨tg, iter, ifs, 0⟩] scope pos) spos) (tAsg (tLc wi g tt te (own.map (·.2))) (gName i)) (sasg (fun ρ => mbind (fi ρ) fun ds => mbind (cloop gm mt fe ds (wipeL ρ (own.map (·.2))) []) lstD) (gnm i)) :=
  ⟨ps_setLc hc hN hy hyl hsw hi.pi ok (fun s H C cl fp => (hg s H C cl fp).pg) ht (fun s H C cl fp => (he s H C cl fp).pe) hs, run_asg (run_lc hi.run (hg X.s_0 (fun _ => none) 0 [] []).run htr (he X.s_0 (fun _ => none) 0 [] []).run) run_gname⟩
theorem run_yes : RunG G W RelB tYes (fun _ => mret true) := fun p σ H ρ s Q e pk fin => fin _ H Keep.refl pk rfl
theorem ds_par {i j : Nat} {x y : Str} {px py pt : Pos} {kt k2 pt2} (hc : X.calm = true) (hN : X.N.Nodup) (hi : X.N[i]? = some x) (hj : X.N[j]? = some y) (hij : i ≠ j)
    (hx : X.env.scope.names.lookup x = some .local) (hy : X.env.scope.names.lookup y = some .local) (ha : DA G X W [a, b] tA fA)
    (hw : swappedStores [.Tuple [.Name x px, .Name y py] kt pt] (.Tuple [a, b] k2 pt2) X.env = pure (some [x, y]) := by rfl)
    (hs : swapsWithSole [.Tuple [.Name x px, .Name y py] kt pt] (.Tuple [a, b] k2 pt2) pos.line X.env = pure false := by rfl) :
    DS G X W (.Assign [.Tuple [.Name x px, .Name y py] kt pt] (.Tuple [a, b] k2 pt2) pos) (tPar i j tA) (spar i j fA) := ⟨ps_par hc hN hi hj hij hx hy ha.pa hw hs, run_par ha.run⟩
/-- a def of the text, with its name in the module -/
structure Dfn (K : PySem.W.Frag) (mg : Str → Option Value) (x qual : Str) (st : Stmt) (ps : List Str) (f : Addr) (fd : FuncData) : Prop where
  fn : Fun K x qual st f fd
  m : mg x = some (.ref f)
  b : L2.Binds K fd ps []
/-- an own error whose __init__ does nothing -/
structure Err0 (K : PySem.W.Frag) (mg : Str → Option Value) (x : Str) (C fI : Addr) (st : Stmt) (qual : Str) (fd : FuncData) : Prop where
  ox : OexC K C
  fi : PySem.W.findIn K (.ref C) "__init__" = some (some (.ref fI))
  ti : PySem.W.typeIn K (.ref fI) = some (.type "function")
  fn : Fun K "__init__" qual st fI fd
  bd : L2.Binds K fd ["self"] []
  m : mg x = some (.ref C)

/-! ### the pen is made -/
variable {P : Program} {w : World} {mg : Str → Option Value} {base : Heap}
def pen0 (ns : List Int) (seed : Int) : Pen := ⟨ns, 0, 0, 0, seed, 0⟩
/-- a list of whole numbers comes in, a pen goes out -/
def spPen (K : PySem.W.Frag) : Sp := fun vs H Q _ => ∃ (a : Addr) (ns : List Int), vs = [.ref a] ∧ SqL K H a (ns.map V.int) ∧
  ∀ (seed : Int) (H' : Hp) (p c : Addr), Same H H' → H p = none → H c = none → H' p = some (.dK (penKV c (pen0 ns seed))) → H' c = some (.lst (ns.map V.int)) → Q (.ref p) H'
end
end Tw

set_option Elab.async false
set_option linter.all false
set_option maxRecDepth 100000
set_option maxHeartbeats 4000000
set_option autoImplicit false
namespace Tw
open PySem L2 PySem.Spec PyProof.Rows
/-! ### mirrors by name -/
def kC (d : D) : Loc → M D := fun _ => mret d
def kOp (f : D → D → M D) (fa fb : Loc → M D) : Loc → M D := fun ρ => mbind (fa ρ) fun x => mbind (fb ρ) fun y => f x y
def kUn (f : D → M D) (fa : Loc → M D) : Loc → M D := fun ρ => mbind (fa ρ) f
def kB (fa : Loc → M D) : Loc → M Bool := fun ρ => mbind (fa ρ) asB
def kAnd (f1 f2 : Loc → M Bool) : Loc → M Bool := fun ρ => mbind (f1 ρ) fun c => if c = true then f2 ρ else mret false
def kOr (f1 f2 : Loc → M Bool) : Loc → M Bool := fun ρ => mbind (f1 ρ) fun c => if c = true then mret true else f2 ρ
def kNot (f1 : Loc → M Bool) : Loc → M Bool := fun ρ => mbind (f1 ρ) fun c => mret (!c)
def kAndV (fa fb : Loc → M D) : Loc → M D := fun ρ => mbind (mbind (fa ρ) asB) fun c => if c = true then fb ρ else mret (.bl false)
def kOrV (fa fb : Loc → M D) : Loc → M D := fun ρ => mbind (mbind (fa ρ) asB) fun c => if c = true then mret (.bl true) else fb ρ
def kNotV (fa : Loc → M D) : Loc → M D := fun ρ => mbind (mbind (fa ρ) asB) fun c => mret (.bl (!c))
def kIf (f1 : Loc → M Bool) (fa fb : Loc → M D) : Loc → M D := fun ρ => mbind (f1 ρ) fun c => if c = true then fa ρ else fb ρ
def kCh (f f' : D → D → M D) (fa fb fc : Loc → M D) : Loc → M D := fun ρ => mbind (fa ρ) fun x => mbind (fb ρ) fun y => mbind (mbind (f x y) asB) fun k => if k = true then mbind (fc ρ) fun z => f' y z else mret (.bl false)
def aNil : Loc → M (List D) := fun _ => mret []
def aCons (fe : Loc → M D) (fA : Loc → M (List D)) : Loc → M (List D) := fun ρ => mbind (fe ρ) fun x => mbind (fA ρ) fun xs => mret (x :: xs)
def kCall (m : List D → M D) (fA : Loc → M (List D)) : Loc → M D := fun ρ => mbind (fA ρ) m
def kLc (fi : Loc → M (List D)) (gm : D → Loc → Option Loc) (mt : Loc → M Bool) (fe : Loc → M D) (vs : List Nat) : Loc → M D := fun ρ => mbind (fi ρ) fun ds => mbind (cloop gm mt fe ds (wipeL ρ vs) []) lstD
def iL (fe : Loc → M D) : Loc → M (List D) := fun ρ => mbind (fe ρ) asL
def iT (fe : Loc → M D) : Loc → M (List D) := fun ρ => mbind (fe ρ) asT
def iR1 (fA : Loc → M (List D)) : Loc → M (List D) := fun ρ => mbind (fA ρ) rng1
def iR2 (fA : Loc → M (List D)) : Loc → M (List D) := fun ρ => mbind (fA ρ) rng2
def zNx : MS := fun ρ s => .nx ρ s
def zBk : MS := fun ρ s => .bk ρ s
def zCt : MS := fun ρ s => .ct ρ s
def zEx (fe : Loc → M D) : MS := fun ρ s => sof (fe ρ s) ρ fun _ s' => .nx ρ s'
def zRet (fe : Loc → M D) : MS := fun ρ s => sof (fe ρ s) ρ fun d s' => .ret d s'
def zRetN : MS := fun _ s => .ret .non s
def zIf (f1 : Loc → M Bool) (m m' : MS) : MS := fun ρ s => sof (f1 ρ s) ρ fun k s' => if k = true then m ρ s' else m' ρ s'
def zRaise (c : Nat) : MS := fun ρ s => .exc c [] [] ρ s
def oT (mt : Nat → Option Bool) (mb : MS) (hm : MS) : MS := sTry mb mt fun c ns xs ρ s => match hm ρ s with | .exc _ _ _ _ _ => .bad | o => o
def oA (i : Nat) (mt : Nat → Option Bool) (nf : Nat → Bool) (mb : MS) (hm : Nat → MS) : MS := sTry mb mt fun c ns xs ρ s => if (nf c && !ns.isEmpty) = true then .bad else backOf i (hm c (ρ.set i (some (.err c ns xs))) s)
section
variable {K : PySem.W.Frag} {G : Gt} {W : WX} {X : Cx}
variable {a b c e : Expr} {es rest : List Expr} {ta tb tc te : TE} {fa fb fc fe : Loc → M D} {r r' : R2} {f f' : D → D → M D} {pos : Pos} {tA : TA} {fA : Loc → M (List D)} {A1 A2 : TT} {f1 f2 : Loc → M Bool} {t u : TS} {m m' mb : MS} {sts : List Stmt} {st : Stmt}
theorem x_int {i : Int} {j : Nat} : DE G X W (.Constant (.int i) j pos) (tC (.int i)) (kC (.int i)) := de_int
theorem x_bl {i : Bool} {j : Nat} : DE G X W (.Constant (.bool i) j pos) (tC (.bl i)) (kC (.bl i)) := de_bl
theorem x_non {j : Nat} : DE G X W (.Constant .none j pos) (tC .non) (kC .non) := de_non
theorem x_str {x : Str} {j : Nat} : DE G X W (.Constant (.str x) j pos) (tC (.str x)) (kC (.str x)) := de_str
theorem x_ty {x : Str} {n : String} (hm : X.mg x = none) (hv : bootBuiltins x = some (.type n)) (hg : Gl X x := by rfl) (hn : x ≠ "__name__" := by decide) (hd : (x == ("__debug__" : Str)) = false := by decide) : DE G X W (.Name x pos) (tC (.ty n)) (kC (.ty n)) := de_ty hg hm hv hn hd
theorem x_cls {x : Str} {n : Nat} (hm : X.mg x = some (.ref (G.cls n))) (hg : Gl X x := by rfl) (hd : (x == ("__debug__" : Str)) = false := by decide) : DE G X W (.Name x pos) (tC (.ref (G.cls n))) (kC (.cls n)) := de_cls hg hm hd
theorem x_op {op : Operator} (ho : OpR X (binaryOp op) r) (hp : Prim2 G r f) (ha : DE G X W a ta fa) (hb : DE G X W b tb fb) : DE G X W (.BinOp a op b pos) (tOp r ta tb) (kOp f fa fb) := de_op ho hp ha hb
theorem x_un {op : UnaryOp} {r : V → Hp → VK → Prop} {f : D → M D} (ho : UnR X (unaryOp op) r) (hp : Prim1 G r f) (ha : DE G X W a ta fa) : DE G X W (.UnaryOp op a pos) (tUn r ta) (kUn f fa) := de_un ho hp ha
theorem x_cmp {op : CmpOp} (ho : OpR X (compareOp op) r) (hp : Prim2 G r f) (ha : DE G X W a ta fa) (hb : DE G X W b tb fb) (hm : behindInMarks op b = false := by first | exact nomark _ | rfl) : DE G X W (.Compare a [op] [b] pos) (tOp r ta tb) (kOp f fa fb) := de_cmp ho hp ha hb hm
theorem x_chain {op op' : CmpOp} (ho : OpR X (compareOp op) r) (ho' : OpR X (compareOp op') r') (hp : Prim2 G r f) (hp' : Prim2 G r' f') (ha : DE G X W a ta fa) (hb : DE G X W b tb fb) (hc : DE G X W c tc fc)
    (hm : lastMarks [op, op'] [b, c] = false := by with_unfolding_all rfl) : DE G X W (.Compare a [op, op'] [b, c] pos) (tChain r r' ta tb tc) (kCh f f' fa fb fc) := de_chain ho ho' hp hp' ha hb hc hm
theorem q_val (h : DE G X W e te fe) (he : ∀ whole, isTrue e X.env whole = (do let v ← whole; standAt e.pos; holding [v] (truthy v)) := by intro _; rfl) : DT G X W e (tB te) (kB fe) := dt_val h he
theorem q_cmp {op : CmpOp} (ho : OpR X (compareOp op) r) (hp : Prim2 G r f) (ha : DE G X W a ta fa) (hb : DE G X W b tb fb) (hm : behindInMarks op b = false := by first | exact nomark _ | rfl) : DT G X W (.Compare a [op] [b] pos) (tTest (tOp r ta tb)) (kB (kOp f fa fb)) := dt_cmp ho hp ha hb hm
theorem w_and1 (ha : DT G X W a A1 f1) : DW G X W (.BoolOp .And [a] pos) A1 f1 := dw_and1 ha
theorem w_or1 (ha : DT G X W a A1 f1) : DW G X W (.BoolOp .Or [a] pos) A1 f1 := dw_or1 ha
theorem w_and (ha : DT G X W a A1 f1) (hb : DW G X W (.BoolOp .And (b :: rest) pos) A2 f2) : DW G X W (.BoolOp .And (a :: b :: rest) pos) (tAnd A1 A2) (kAnd f1 f2) := dw_and ha hb
theorem w_or (ha : DT G X W a A1 f1) (hb : DW G X W (.BoolOp .Or (b :: rest) pos) A2 f2) : DW G X W (.BoolOp .Or (a :: b :: rest) pos) (tOr A1 A2) (kOr f1 f2) := dw_or ha hb
theorem q_not (ha : DT G X W a A1 f1) : DT G X W (.UnaryOp .Not a pos) (tNot A1) (kNot f1) := dt_not ha
theorem x_and (ha : DE G X W a ta fa) (hb : DE G X W (.BoolOp .And (b :: rest) pos) tb fb) : DE G X W (.BoolOp .And (a :: b :: rest) pos) (tAndV ta tb) (kAndV fa fb) := de_and ha hb
theorem x_or (ha : DE G X W a ta fa) (hb : DE G X W (.BoolOp .Or (b :: rest) pos) tb fb) : DE G X W (.BoolOp .Or (a :: b :: rest) pos) (tOrV ta tb) (kOrV fa fb) := de_or ha hb
theorem x_not (ha : DE G X W a ta fa) : DE G X W (.UnaryOp .Not a pos) (tNotV ta) (kNotV fa) := de_not ha
theorem x_ifExp (hc : DT G X W c A1 f1) (ha : DE G X W a ta fa) (hb : DE G X W b tb fb) : DE G X W (.IfExp c a b pos) (tIf A1 ta tb) (kIf f1 fa fb) := de_ifExp hc ha hb
theorem a_nil : DA G X W [] tNil aNil := da_nil
theorem a_cons (ha : DE G X W e te fe) (hr : DA G X W es tA fA) (hs : starEach (e :: es) X.env = (false, eval e X.env) :: starEach es X.env := by rfl) : DA G X W (e :: es) (tCons te tA) (aCons fe fA) := da_cons ha hr hs
theorem l_nil : LenA aNil 0 := len_nil
theorem l_cons {n : Nat} (h : LenA fA n) : LenA (aCons fe fA) (n + 1) := len_cons h
theorem x_tup {x1} (h : DA G X W es tA fA) : DE G X W (.Tuple es x1 pos) (tTup tA) (kCall tupD fA) := de_tup h
theorem x_lst (h : DA G X W es tA fA) : DE G X W (.List es pos) (tLst tA) (kCall lstD fA) := de_lst h
theorem x_ix (hK : X.K = K) (ha : DE G X W a ta fa) (hb : DE G X W b tb fb) (hs : PlainIx b := by exact fun _ _ => rfl) : DE G X W (.Subscript a b pos) (tOp (fun x y H Q => rIxL K x y H Q ∨ rIxT K x y H Q) ta tb) (kOp itemD fa fb) := de_ix hK ha hb hs
theorem x_call {k n : Nat} {g : Addr} {fd : FuncData} {ps : List Str} {m : List D → M D} {x : Str} {p0 : Pos} (F : FnOk X.prog X.w X.K X.mg X.base (L2.CX X.prog X.w) k g fd ps (spM G n m)) (hr : Room k X.A) (tk : Takes X W) (hm : X.mg x = some (.ref g)) (hk : PySem.W.keepIn X.K (.ref g) = true) (hb : L2.Binds X.K fd ps [])
    (ha : DA G X W (e :: es) tA fA) (hl : LenA fA n) (hg : Gl X x := by rfl) (hdb : (x == ("__debug__" : Str)) = false := by decide) (he : starEach (e :: es) X.env = (false, eval e X.env) :: starEach es X.env := by rfl) (hpl : (backTo pos (starEach es X.env)).any (·.1) = false := by rfl) :
    DE G X W (.Call (.Name x p0) (e :: es) [] pos) (tCallS (spM G n m) (WE W) tA) (kCall m fA) := de_call F hr tk hg hm hk hb ha hl hdb he hpl
theorem x_callB {x : Str} {p0 : Pos} {id : String} {rl : List V → Hp → VK → Prop} {g : List D → M D} (hc : CallR X (.builtin id) rl) (hp : PrimL G rl g) (hm : X.mg x = none) (hv : bootBuiltins x = some (.builtin id)) (ha : DA G X W (e :: es) tA fA) (hg : Gl X x := by rfl) (hn : x ≠ "__name__" := by decide) (hdb : (x == ("__debug__" : Str)) = false := by decide)
    (he : starEach (e :: es) X.env = (false, eval e X.env) :: starEach es X.env := by rfl) (hpl : (backTo pos (starEach es X.env)).any (·.1) = false := by rfl) : DE G X W (.Call (.Name x p0) (e :: es) [] pos) (tCB rl tA) (kCall g fA) := de_callB hc hp hg hm hv ha hn hdb he hpl
theorem x_callTy {x : Str} {p0 : Pos} {T : String} {rl : List V → Hp → VK → Prop} {g : List D → M D} (hc : CallR X (.type T) rl) (hp : PrimL G rl g) (hm : X.mg x = none) (hv : bootBuiltins x = some (.type T)) (ha : DA G X W (e :: es) tA fA) (hg : Gl X x := by rfl) (hn : x ≠ "__name__" := by decide) (hdb : (x == ("__debug__" : Str)) = false := by decide)
    (he : starEach (e :: es) X.env = (false, eval e X.env) :: starEach es X.env := by rfl) (hpl : (backTo pos (starEach es X.env)).any (·.1) = false := by rfl) : DE G X W (.Call (.Name x p0) (e :: es) [] pos) (tCB rl tA) (kCall g fA) := de_callTy hc hp hg hm hv ha hn hdb he hpl
theorem x_callG {x : Str} {p0 : Pos} {id : String} {rl : List V → Hp → VK → Prop} {g : List D → M D} (hc : CallR X (.builtin id) rl) (hp : PrimL G rl g) (hm : X.mg x = some (.builtin id)) (ha : DA G X W (e :: es) tA fA) (hg : Gl X x := by rfl) (hdb : (x == ("__debug__" : Str)) = false := by decide)
    (he : starEach (e :: es) X.env = (false, eval e X.env) :: starEach es X.env := by rfl) (hpl : (backTo pos (starEach es X.env)).any (·.1) = false := by rfl) : DE G X W (.Call (.Name x p0) (e :: es) [] pos) (tCB rl tA) (kCall g fA) := de_callBfun hc hp hg hm ha hdb he hpl
theorem i_list {tg : Expr} (hK : X.K = K) (hl : DE G X W e te fe) : DI G X W tg e (iList K te) (iL fe) := di_list hK hl
theorem i_tup {tg : Expr} (hK : X.K = K) (hl : DE G X W e te fe) : DI G X W tg e (iTup K te) (iT fe) := di_tup hK hl
theorem i_range1 {tg : Expr} {p0 : Pos} (hm : X.mg "range" = none) (ha : DA G X W [a] tA fA) (hg : Gl X "range" := by rfl) (hs : starEach [a] X.env = [(false, eval a X.env)] := by rfl) : DI G X W tg (.Call (.Name "range" p0) [a] [] pos) (iRng1 tA) (iR1 fA) := di_range1 hg hm ha hs
theorem i_range2 {tg : Expr} {p0 : Pos} (hm : X.mg "range" = none) (ha : DA G X W [a, b] tA fA) (hg : Gl X "range" := by rfl) (hs : starEach [a, b] X.env = [(false, eval a X.env), (false, eval b X.env)] := by rfl) (hs2 : starEach [b] X.env = [(false, eval b X.env)] := by rfl) : DI G X W tg (.Call (.Name "range" p0) [a, b] [] pos) (iRng2 tA) (iR2 fA) := di_range2 hg hm ha hs hs2
theorem x_lc {tg iter elt : Expr} {ifs : List Expr} {scope : Scope} (own : List (Str × Nat)) {wi : TI} {g : TG} {gm : D → Loc → Option Loc} {fi : Loc → M (List D)} {tt : TT} {mt : Loc → M Bool} (hc : X.calm = true) (hN : X.N.Nodup) (hi : DI G X W tg iter wi fi) (ok : BlkOk X.N X.env.scope scope own)
    (hg : ∀ (s : Shared) (H : Hp) (C : Addr) (cl : List (Str × Addr)) (fp : List Addr), DG G (X.blk s H scope (compEnvC scope cl C X.env) fp) (own.map (·.2)) tg g gm) (ht : ∀ (s : Shared) (H : Hp) (C : Addr) (cl : List (Str × Addr)) (fp : List Addr), PTs (X.blk s H scope (compEnvC scope cl C X.env) fp) ifs tt) (htr : RunG G W0 RelB tt mt)
    (he : ∀ (s : Shared) (H : Hp) (C : Addr) (cl : List (Str × Addr)) (fp : List Addr), DE G (X.blk s H scope (compEnvC scope cl C X.env) fp) W0 elt te fe) (hs : ∀ x, foldedSetIterable iter X.env x = pure x := by intro _; rfl) :
    DE G X W (.ListComp elt [⟨tg, iter, ifs, 0⟩] scope pos) (tLc wi g tt te (own.map (·.2))) (kLc fi gm mt fe (own.map (·.2))) := de_lc hc hN hi ok hg ht htr he hs
theorem z_setLc {i : Nat} {y : Str} {py spos : Pos} {tg iter elt : Expr} {ifs : List Expr} {scope : Scope} (own : List (Str × Nat)) {wi : TI} {g : TG} {gm : D → Loc → Option Loc} {fi : Loc → M (List D)} {tt : TT} {mt : Loc → M Bool} (hc : X.calm = true) (hN : X.N.Nodup) (hy : X.N[i]? = some y) (hyl : X.env.scope.names.lookup y = some .local)
    (hsw : swapsWith (.ListComp elt [⟨tg, iter, ifs, 0⟩] scope pos) (some (.Name y py)) spos.line X.env = pure true) (hi : DI G X W tg iter wi fi) (ok : BlkOk X.N X.env.scope scope own)
    (hg : ∀ (s : Shared) (H : Hp) (C : Addr) (cl : List (Str × Addr)) (fp : List Addr), DG G (X.blk s H scope (compEnvC scope cl C X.env) fp) (own.map (·.2)) tg g gm) (ht : ∀ (s : Shared) (H : Hp) (C : Addr) (cl : List (Str × Addr)) (fp : List Addr), PTs (X.blk s H scope (compEnvC scope cl C X.env) fp) ifs tt) (htr : RunG G W0 RelB tt mt)
    (he : ∀ (s : Shared) (H : Hp) (C : Addr) (cl : List (Str × Addr)) (fp : List Addr), DE G (X.blk s H scope (compEnvC scope cl C X.env) fp) W0 elt te fe) (hs : ∀ x, foldedSetIterable iter X.env x = pure x := by intro _; rfl) :
    DS G X W (.Assign [.Name y py] (.ListComp elt [⟨tg, iter, ifs, 0⟩] scope pos) spos) (tAsg (tLc wi g tt te (own.map (·.2))) (gName i)) (sasg (kLc fi gm mt fe (own.map (·.2))) (gnm i)) := ds_setLc hc hN hy hyl hsw hi ok hg ht htr he hs
theorem z_nil : DSs G X W [] tNext zNx := dss_nil
theorem z_expr (he : DE G X W e te fe) (hs : swapsWith e none pos.line X.env = pure false := by rfl) : DS G X W (.Expr e pos) (tDrop te) (zEx fe) := ds_expr he hs
theorem z_ret (he : DE G X W e te fe) : DS G X W (.Return (some e) pos) (tRet te) (zRet fe) := ds_ret he
theorem z_retN : DS G X W (.Return none pos) tRetN zRetN := ds_retN
theorem z_pass : DS G X W (.Pass pos) tNext zNx := ds_pass
theorem z_break : DS G X W (.Break pos) tBreak zBk := ds_break
theorem z_continue : DS G X W (.Continue pos) tCont zCt := ds_continue
theorem z_if {x y : List Stmt} (hc : DT G X W c A1 f1) (ha : DSs G X W x t m) (hb : DSs G X W y u m') : DS G X W (.If c x y pos) (tIfS A1 t u) (zIf f1 m m') := ds_if hc ha hb
theorem z_raise0 {cn : Nat} {x : Str} {fI : Addr} {stI : Stmt} {qual : Str} {fd : FuncData} {p0 pos' ppos : Pos} (hc : X.calm = true) (tk : Takes X W) (E : Err0 X.K X.mg x (G.cls cn) fI stI qual fd) (S : FnScope ["self"] ["self"] (defScope stI)) (hb : defBody stI = [.Pass ppos]) (hr : Room 2 X.A) (hg : Gl X x := by rfl) (hdb : (x == ("__debug__" : Str)) = false := by decide) :
    DS G X W (.Raise (some (.Call (.Name x p0) [] [] pos')) none pos) (fun _ σ H => ∀ H', (∀ b o, H b = some o → H' b = some o) → W (.ref (G.cls cn)) none σ H') (zRaise cn) :=
  ds_raise0 hc tk (pmk_no E.ox E.fi E.ti (ok_noinit E.fn S hb) hr E.bd hg E.m hdb)
theorem g_tup {vs : List Nat} {n k : Nat} {gs : TGs} {g2 : List D → Loc → Option Loc} (hK : X.K = K) (hc : X.calm = true) (h : DGs G X vs es gs g2) (hn : (assignEach es X.env).length = n := by rfl) (hst : (assignEach es X.env).findIdx? (·.1) = none := by rfl) : DG G X vs (.Tuple es k pos) (gTup K n gs) (gtm n g2) := by
  subst hK; exact dg_tup h.run (pg_tup hc h.pg hn hst)
theorem g_lst {vs : List Nat} {n k : Nat} {gs : TGs} {g2 : List D → Loc → Option Loc} (hK : X.K = K) (hc : X.calm = true) (h : DGs G X vs es gs g2) (hn : (assignEach es X.env).length = n := by rfl) (hst : (assignEach es X.env).findIdx? (·.1) = none := by rfl) : DG G X vs (.Tuple es k pos) (gLst K n gs) (glm n g2) := by
  subst hK; exact dg_lst h.run (pg_lst hc h.pg hn hst)
def gnl : List D → Loc → Option Loc := fun ds ρ => match ds with
  | [] => some ρ
  | _ => none
theorem g_nil {vs : List Nat} : DGs G X vs [] gNil gnl := dgs_nil
theorem g_cons {vs : List Nat} {g : TG} {gs : TGs} {g1 : D → Loc → Option Loc} {g2 : List D → Loc → Option Loc} (h1 : DG G X vs e g g1) (h2 : DGs G X vs es gs g2) (hs : (assignEach (e :: es) X.env).map (·.2) = assign e X.env :: (assignEach es X.env).map (·.2) := by rfl) : DGs G X vs (e :: es) (gCons g gs) (gcn g1 g2) := dgs_cons h1 h2 (pgs_cons h1.pg h2.pg hs)
end
end Tw

set_option Elab.async false
set_option linter.all false
set_option maxRecDepth 100000
set_option maxHeartbeats 4000000
set_option autoImplicit false
namespace Tw
open PySem L2
theorem mbind_ret {α β : Type} (a : α) (f : α → M β) : mbind (mret a) f = f a := rfl
theorem mbind_bad {α β : Type} (f : α → M β) : mbind mbad f = mbad := rfl
theorem sof_ret {α : Type} (a : α) (s : Pen) (ρ : Loc) (k : α → Pen → OutS) : sof (mret a s) ρ k = k a s := rfl
theorem mbind_ap {α β : Type} (m : M α) (f : α → M β) (s : Pen) : mbind m f s = obind (m s) f := rfl
theorem obind_ok {α β : Type} (a : α) (s : Pen) (f : α → M β) : obind (.ok a s) f = f a s := rfl
theorem sof_ok {α : Type} (a : α) (s : Pen) (ρ : Loc) (k : α → Pen → OutS) : sof (.ok a s) ρ k = k a s := rfl
theorem mret_ap {α : Type} (a : α) (s : Pen) : mret a s = .ok a s := rfl
theorem sseq_nx {m m' : MS} {ρ ρ' : Loc} {s s' : Pen} (h : m ρ s = .nx ρ' s') : sseq m m' ρ s = m' ρ' s' := by unfold sseq; rw [h]
theorem sseq_ret {m m' : MS} {ρ : Loc} {d : D} {s s' : Pen} (h : m ρ s = .ret d s') : sseq m m' ρ s = .ret d s' := by unfold sseq; rw [h]
theorem mdef_ret {n : Nat} {b : MS} {ds : List D} {d : D} {s s' : Pen} (h : b (startL n ds) s = .ret d s') : mdef n b ds s = .ok d s' := by unfold mdef; rw [h]
theorem pow_eq (i j : Int) (h : (decide (0 ≤ j ∧ j ≤ 1000000 ∧ i.natAbs < 2 ^ 64)) = true) : powI (.int i) (.int j) = mret (.int (i ^ j.toNat)) := by
  show (if (decide (0 ≤ j ∧ j ≤ 1000000 ∧ i.natAbs < 2 ^ 64)) = true then _ else _) = _
  rw [if_pos h]
theorem p9 : powI (.int 10) (.int 9) = mret (.int 1000000000) := rfl
theorem p15 : powI (.int 10) (.int 15) = mret (.int 1000000000000000) := rfl
theorem p18 : powI (.int 10) (.int 18) = mret (.int 1000000000000000000) := rfl
theorem p20 : powI (.int 10) (.int 20) = mret (.int 100000000000000000000) := rfl
theorem p30 : powI (.int 10) (.int 30) = mret (.int 1000000000000000000000000000000) := rfl
theorem mul_eq {i j : Int} (h : mulOk i j = true) : mulI (.int i) (.int j) = mret (.int (i * j)) := by
  show (if mulOk i j = true then mret (D.int (i * j)) else mbad) = _
  rw [if_pos h]
theorem mulOk_r {i j : Int} (h : j.natAbs < 2 ^ 64) : mulOk i j = true := by unfold mulOk; rw [decide_eq_true h]; rfl
theorem mulOk_l {i j : Int} (h : i.natAbs < 2 ^ 64) : mulOk i j = true := by
  unfold mulOk
  rw [decide_eq_true h]
  cases decide (j.natAbs < 2 ^ 64) <;> rfl
theorem log2_le {n m : Nat} (h : n ≤ m) : n.log2 ≤ m.log2 := by
  by_cases h0 : n = 0
  · subst h0; simp
  · exact (Nat.le_log2 (by omega)).mpr (Nat.le_trans (Nat.log2_self_le h0) h)
/-- below 2 ^ n -/
def Sm (n : Nat) (x : Int) : Prop := x.natAbs < 2 ^ n
instance {n : Nat} {x : Int} : Decidable (Sm n x) := inferInstanceAs (Decidable (x.natAbs < 2 ^ n))
theorem Sm.log {n : Nat} {x : Int} (h : Sm n x) (hn : 0 < n) : x.natAbs.log2 < n := PySem.Flt.log2_lt_of hn h
theorem mulOk_s {i j : Int} {n m : Nat} (hi : Sm n i) (hj : Sm m j) (hn : 0 < n) (hm : 0 < m) (h : n + m ≤ 1000000) : mulOk i j = true := by
  have h1 := hi.log hn
  have h2 := hj.log hm
  unfold mulOk
  rw [decide_eq_true (show i.natAbs.log2 + j.natAbs.log2 < 1000000 by omega)]
  cases decide (j.natAbs < 2 ^ 64) <;> cases decide (i.natAbs < 2 ^ 64) <;> rfl
theorem Sm.mul {i j : Int} {n m : Nat} (hi : Sm n i) (hj : Sm m j) : Sm (n + m) (i * j) := wide_lt hi hj
theorem Sm.add {i j : Int} {n : Nat} (hi : Sm n i) (hj : Sm n j) : Sm (n + 1) (i + j) := by
  unfold Sm at *
  have : (2 : Nat) ^ (n + 1) = 2 ^ n + 2 ^ n := by rw [Nat.pow_succ]; omega
  omega
theorem Sm.sub {i j : Int} {n : Nat} (hi : Sm n i) (hj : Sm n j) : Sm (n + 1) (i - j) := by
  unfold Sm at *
  have : (2 : Nat) ^ (n + 1) = 2 ^ n + 2 ^ n := by rw [Nat.pow_succ]; omega
  omega
theorem Sm.mono {i : Int} {n m : Nat} (hi : Sm n i) (h : n ≤ m) : Sm m i := Nat.lt_of_lt_of_le hi (Nat.pow_le_pow_right (by decide) h)
/-- isinstance by a built-in type -/
theorem isi_of {x : D} {T a : String} (h : tag x = some a) (hk : kitB a T = some (subT a T)) : isiB [x, .ty T] = mret (.bl (subT a T)) := by
  show (match tag x with | some a => if decide (kitB a T = some (subT a T)) = true then mret (D.bl (subT a T)) else mbad | none => mbad) = _
  rw [h]
  show (if decide (kitB a T = some (subT a T)) = true then mret (D.bl (subT a T)) else mbad) = _
  rw [if_pos (decide_eq_true hk)]
theorem ii_int (i : Int) : isiB [.int i, .ty "int"] = mret (.bl true) := isi_of (a := "int") rfl (by decide +kernel)
theorem ii_bool (i : Int) : isiB [.int i, .ty "bool"] = mret (.bl false) := isi_of (a := "int") rfl (by decide +kernel)
theorem ib_int (i : Bool) : isiB [.bl i, .ty "int"] = mret (.bl true) := isi_of (a := "bool") rfl (by decide +kernel)
theorem ib_bool (i : Bool) : isiB [.bl i, .ty "bool"] = mret (.bl true) := isi_of (a := "bool") rfl (by decide +kernel)
theorem in_int : isiB [.non, .ty "int"] = mret (.bl false) := isi_of (a := "NoneType") rfl (by decide +kernel)
theorem is_int (x : Str) : isiB [.str x, .ty "int"] = mret (.bl false) := isi_of (a := "str") rfl (by decide +kernel)
theorem it_int (xs : List D) : isiB [.tup xs, .ty "int"] = mret (.bl false) := isi_of (a := "tuple") rfl (by decide +kernel)
theorem il_int (xs : List D) : isiB [.lst xs, .ty "int"] = mret (.bl false) := isi_of (a := "list") rfl (by decide +kernel)
theorem it_tuple (xs : List D) : isiB [.tup xs, .ty "tuple"] = mret (.bl true) := isi_of (a := "tuple") rfl (by decide +kernel)
theorem atI_int {ns : List Int} {i : Nat} (h : i < ns.length) : ∃ n, atI (ns.map D.int) (i : Int) = some (.int n) := by
  refine ⟨ns[i], atI_nat ?_⟩
  rw [List.getElem?_map, List.getElem?_eq_some_iff.mpr ⟨h, rfl⟩]
  rfl
theorem fmd_eq {i j : Int} (h : j ≠ 0) : fmdI (.int i) (.int j) = mret (.int (i.fmod j)) := by
  show (if decide (j ≠ 0) = true then mret (D.int (i.fmod j)) else mbad) = _
  rw [if_pos (decide_eq_true h)]
theorem fdv_eq {i j : Int} (h : j ≠ 0) (h9 : j.natAbs.log2 < 9000) : fdvI (.int i) (.int j) = mret (.int (i.fdiv j)) := by
  show (if decide (j ≠ 0 ∧ j.natAbs.log2 < 9000) = true then mret (D.int (i.fdiv j)) else mbad) = _
  rw [if_pos (decide_eq_true ⟨h, h9⟩)]
theorem fdv_64 {i : Int} : fdvI (.int i) (.int 64) = mret (.int (i.fdiv 64)) := fdv_eq (by decide) (by decide)
end Tw

set_option Elab.async false
set_option linter.all false
set_option maxRecDepth 100000
set_option maxHeartbeats 4000000
set_option autoImplicit false
namespace Tw
open PySem L2
/-! ### ratios -/
/-- a ratio as the program has it -/
def rd (q : Rat) : D := .tup [.int q.num, .int (q.den : Nat)]
theorem cross {a b : Int} (hb : b ≠ 0) : (Rat.divInt a b).num * b = a * ((Rat.divInt a b).den : Nat) := by
  have h := Rat.num_divInt_den (Rat.divInt a b)
  have hd : (((Rat.divInt a b).den : Nat) : Int) ≠ 0 := by have := (Rat.divInt a b).den_nz; omega
  exact (Rat.divInt_eq_divInt_iff hd hb).mp h
theorem rat_add (p q : Rat) : p + q = Rat.divInt (p.num * (q.den : Nat) + q.num * (p.den : Nat)) ((p.den : Nat) * (q.den : Nat)) := by
  have h1 : ((p.den : Nat) : Int) ≠ 0 := by have := p.den_nz; omega
  have h2 : ((q.den : Nat) : Int) ≠ 0 := by have := q.den_nz; omega
  rw [← Rat.divInt_add_divInt _ _ h1 h2, Rat.num_divInt_den, Rat.num_divInt_den]
theorem rat_mul (p q : Rat) : p * q = Rat.divInt (p.num * q.num) ((p.den : Nat) * (q.den : Nat)) := by
  have h1 : ((p.den : Nat) : Int) ≠ 0 := by have := p.den_nz; omega
  have h2 : ((q.den : Nat) : Int) ≠ 0 := by have := q.den_nz; omega
  rw [← Rat.divInt_mul_divInt, Rat.num_divInt_den, Rat.num_divInt_den]
theorem dens (p q : Rat) : ((p.den : Nat) : Int) * ((q.den : Nat) : Int) ≠ 0 := by
  have h1 : ((p.den : Nat) : Int) ≠ 0 := by have := p.den_nz; omega
  have h2 : ((q.den : Nat) : Int) ≠ 0 := by have := q.den_nz; omega
  exact Int.mul_ne_zero h1 h2
/-- both numbers of a ratio are below 2 ^ n -/
def Rs (n : Nat) (q : Rat) : Prop := Sm n q.num ∧ Sm n ((q.den : Nat) : Int)
theorem rs_of {a b : Int} {n : Nat} (ha : Sm n a) (hb : Sm n b) (h0 : b ≠ 0) : Rs n (Rat.divInt a b) := by
  unfold Rs Sm at *
  have hg : 0 < b.gcd a := Int.gcd_pos_of_ne_zero_left a h0
  rw [Rat.num_divInt, Rat.den_divInt, if_neg h0]
  constructor
  · refine Nat.lt_of_le_of_lt ?_ ha
    have e : (b.sign * a).natAbs = a.natAbs := by
      rw [Int.natAbs_mul, Int.natAbs_sign_of_ne_zero h0, Nat.one_mul]
    refine Nat.le_trans (Int.natAbs_ediv_le_natAbs _ _) ?_
    rw [e]
    exact Nat.le_refl _
  · refine Nat.lt_of_le_of_lt ?_ hb
    show ((b.natAbs / b.gcd a : Nat) : Int).natAbs ≤ b.natAbs
    rw [Int.natAbs_natCast]
    exact Nat.div_le_self _ _
theorem sh2 (a b : Int) : SeqAt.shaped (.tuple [.int a, .int b]) = true := rfl
theorem eq_rd (p : Rat) : eqA (rd p) (rd p) = mret (.bl true) := by
  show (if (SeqAt.shaped (.tuple [.int p.num, .int (p.den : Nat)]) && SeqAt.shaped (.tuple [.int p.num, .int (p.den : Nat)])) = true then mret (D.bl (PyData.eqv (.tuple [.int p.num, .int (p.den : Nat)]) (.tuple [.int p.num, .int (p.den : Nat)]))) else mbad) = _
  rw [if_pos (by rw [sh2]; rfl)]
  rw [show PyData.eqv (.tuple [.int p.num, .int (p.den : Nat)]) (.tuple [.int p.num, .int (p.den : Nat)]) = true by simp [PyData.eqv, PyData.eqvAll]]
theorem ne_rd (p : Rat) : neA (rd p) (rd p) = mret (.bl false) := by
  show (if (SeqAt.shaped (.tuple [.int p.num, .int (p.den : Nat)]) && SeqAt.shaped (.tuple [.int p.num, .int (p.den : Nat)])) = true then mret (D.bl (!PyData.eqv (.tuple [.int p.num, .int (p.den : Nat)]) (.tuple [.int p.num, .int (p.den : Nat)]))) else mbad) = _
  rw [if_pos (by rw [sh2]; rfl)]
  rw [show PyData.eqv (.tuple [.int p.num, .int (p.den : Nat)]) (.tuple [.int p.num, .int (p.den : Nat)]) = true by simp [PyData.eqv, PyData.eqvAll]]
  rfl
/-- the two numbers of a lowered fraction, as the program makes them -/
theorem lowered (a b : Int) (hb : b ≠ 0) (g : Int) (eg : g = if b < 0 then -((Nat.gcd a.natAbs b.natAbs : Nat) : Int) else ((Nat.gcd a.natAbs b.natAbs : Nat) : Int)) : (D.tup [.int (a.fdiv g), .int (b.fdiv g)] : D) = rd (Rat.divInt a b) := by
  have hg : 0 < Nat.gcd a.natAbs b.natAbs := Nat.gcd_pos_of_pos_right _ (by omega)
  have hi : ((Nat.gcd a.natAbs b.natAbs : Nat) : Int) ≠ 0 := by omega
  have e1 : ((Nat.gcd a.natAbs b.natAbs : Nat) : Int) ∣ a := Int.ofNat_dvd_left.mpr (Nat.gcd_dvd_left ..)
  have e2 : ((Nat.gcd a.natAbs b.natAbs : Nat) : Int) ∣ b := Int.ofNat_dvd_left.mpr (Nat.gcd_dvd_right ..)
  have ec : (b.gcd a : Nat) = Nat.gcd a.natAbs b.natAbs := by rw [Int.gcd, Nat.gcd_comm]
  unfold rd
  rw [Rat.num_divInt, Rat.den_divInt, if_neg hb, ec]
  obtain ⟨x, hx⟩ := e1
  obtain ⟨y, hy⟩ := e2
  generalize hG : Nat.gcd a.natAbs b.natAbs = G0 at *
  by_cases hneg : b < 0
  · rw [if_pos hneg] at eg
    subst eg
    have hs : b.sign = -1 := Int.sign_eq_neg_one_of_neg hneg
    have ha1 : a.fdiv (-(G0 : Int)) = -x := by
      rw [Int.fdiv_eq_ediv_of_dvd (Int.neg_dvd.mpr ⟨x, hx⟩), Int.ediv_neg, hx, Int.mul_ediv_cancel_left _ hi]
    have hb1 : b.fdiv (-(G0 : Int)) = -y := by
      rw [Int.fdiv_eq_ediv_of_dvd (Int.neg_dvd.mpr ⟨y, hy⟩), Int.ediv_neg, hy, Int.mul_ediv_cancel_left _ hi]
    have ha2 : b.sign * a / (G0 : Int) = -x := by
      rw [hs, hx, Int.neg_one_mul, ← Int.mul_neg, Int.mul_ediv_cancel_left _ hi]
    have hyn : y < 0 := by
      rcases Int.lt_trichotomy y 0 with h | h | h
      · exact h
      · rw [h, Int.mul_zero] at hy; omega
      · have := Int.mul_pos (show (0 : Int) < (G0 : Int) by omega) h
        omega
    have hb2 : ((b.natAbs / G0 : Nat) : Int) = -y := by
      have e : b.natAbs = G0 * (-y).toNat := by
        have : (b.natAbs : Int) = (G0 : Int) * ((-y).toNat : Int) := by
          rw [Int.toNat_of_nonneg (by omega), Int.mul_neg, ← hy]; omega
        exact_mod_cast this
      rw [e, Nat.mul_div_cancel_left _ hg]
      exact Int.toNat_of_nonneg (by omega)
    rw [ha1, hb1, ha2, hb2]
  · rw [if_neg hneg] at eg
    subst eg
    have hs : b.sign = 1 := Int.sign_eq_one_of_pos (by omega)
    have ha1 : a.fdiv (G0 : Int) = x := by
      rw [Int.fdiv_eq_ediv_of_dvd ⟨x, hx⟩, hx, Int.mul_ediv_cancel_left _ hi]
    have hb1 : b.fdiv (G0 : Int) = y := by
      rw [Int.fdiv_eq_ediv_of_dvd ⟨y, hy⟩, hy, Int.mul_ediv_cancel_left _ hi]
    have ha2 : b.sign * a / (G0 : Int) = x := by
      rw [hs, Int.one_mul, hx, Int.mul_ediv_cancel_left _ hi]
    have hyp : 0 < y := by
      rcases Int.lt_trichotomy y 0 with h | h | h
      · have := Int.mul_neg_of_pos_of_neg (show (0 : Int) < (G0 : Int) by omega) h
        omega
      · rw [h, Int.mul_zero] at hy; omega
      · exact h
    have hb2 : ((b.natAbs / G0 : Nat) : Int) = y := by
      have e : b.natAbs = G0 * y.toNat := by
        have : (b.natAbs : Int) = (G0 : Int) * (y.toNat : Int) := by
          rw [Int.toNat_of_nonneg (by omega), ← hy]; omega
        exact_mod_cast this
      rw [e, Nat.mul_div_cancel_left _ hg]
      exact Int.toNat_of_nonneg (by omega)
    rw [ha1, hb1, ha2, hb2]
/-- the signs -/
theorem signs {p q : Rat} {a0 a1 b0 b1 : Int} (ha : a1 ≠ 0) (hb : b1 ≠ 0) (hp : p = Rat.divInt a0 a1) (hq : q = Rat.divInt b0 b1) :
    Int.sign (p.num * (q.den : Nat) - q.num * (p.den : Nat)) = Int.sign (a0 * b1 - b0 * a1) * Int.sign (a1 * b1) := by
  have cp : p.num * a1 = a0 * (p.den : Nat) := by rw [hp]; exact cross ha
  have cq : q.num * b1 = b0 * (q.den : Nat) := by rw [hq]; exact cross hb
  have dp : (0 : Int) < (p.den : Nat) := by have := p.den_nz; omega
  have dq : (0 : Int) < (q.den : Nat) := by have := q.den_nz; omega
  generalize ((p.den : Nat) : Int) = P at *
  generalize ((q.den : Nat) : Int) = Q at *
  generalize p.num = x at *
  generalize q.num = y at *
  have key : (x * Q - y * P) * (a1 * b1) = (a0 * b1 - b0 * a1) * (P * Q) := by grind
  have hz : a1 * b1 ≠ 0 := Int.mul_ne_zero ha hb
  have s1 : Int.sign (x * Q - y * P) * Int.sign (a1 * b1) = Int.sign (a0 * b1 - b0 * a1) := by
    rw [← Int.sign_mul, key, Int.sign_mul, Int.sign_eq_one_of_pos (Int.mul_pos dp dq), Int.mul_one]
  rw [← s1, Int.mul_assoc]
  have s2 : Int.sign (a1 * b1) * Int.sign (a1 * b1) = 1 := by
    rcases Int.lt_or_gt_of_ne hz with h | h
    · rw [Int.sign_eq_neg_one_of_neg h]; rfl
    · rw [Int.sign_eq_one_of_pos h]; rfl
  rw [s2, Int.mul_one]
/-- a loop whose turns all go on and leave the pen -/
theorem sloop_all {gm : D → Loc → Option Loc} {mb : MS} {s : Pen} (I : Loc → Prop) : ∀ (ds : List D) (ρ : Loc), I ρ → (∀ d ∈ ds, ∀ ρ, I ρ → ∃ ρ1 ρ2, gm d ρ = some ρ1 ∧ mb ρ1 s = .nx ρ2 s ∧ I ρ2) → ∃ ρ', sloop gm mb ds ρ s = .nx ρ' s ∧ I ρ'
  | [], ρ, h, _ => ⟨ρ, rfl, h⟩
  | d :: ds, ρ, h, ht => by
    obtain ⟨ρ1, ρ2, e1, e2, h2⟩ := ht d (List.mem_cons_self ..) ρ h
    obtain ⟨ρ', e3, h3⟩ := sloop_all I ds ρ2 h2 fun x hx => ht x (List.mem_cons_of_mem _ hx)
    refine ⟨ρ', ?_, h3⟩
    unfold sloop
    rw [e1]
    dsimp only
    rw [e2]
    exact e3
end Tw

set_option Elab.async false
set_option linter.all false
set_option maxRecDepth 100000
set_option maxHeartbeats 4000000
set_option autoImplicit false
namespace K01
open PySem L2 PySem.Spec PyProof.Rows Tw
def topS (i : Nat) : Stmt := PySem.Challenge.pw_fourhinges_k01_ratios.main.body.getD i (.Pass ⟨0, 0, 0, 0⟩)
abbrev s_is_number : Stmt := topS 5
abbrev s_is_whole : Stmt := topS 7
abbrev s_ratio : Stmt := topS 8
abbrev s_compare_ratios : Stmt := topS 9
abbrev s_ratio_sum : Stmt := topS 10
abbrev s_ratio_product : Stmt := topS 11
abbrev s__law_pen : Stmt := topS 13
abbrev s__law_take : Stmt := topS 14
abbrev s__law_of : Stmt := topS 15
abbrev s__law_number : Stmt := topS 16
abbrev s__law_is_number : Stmt := topS 17
abbrev s__law_divisor : Stmt := topS 18
abbrev s__law_right : Stmt := topS 19
abbrev s__law_fraction : Stmt := topS 20
abbrev s__law_sign : Stmt := topS 21
abbrev s__law_two : Stmt := topS 22
abbrev s__law_three : Stmt := topS 23
abbrev s__law_refused : Stmt := topS 24
abbrev s__law_wholes : Stmt := topS 25
abbrev s_law : Stmt := topS 26
abbrev si_BridgeError : Stmt := inClass (topS 2) 0
abbrev si_BadRatio : Stmt := inClass (topS 3) 0
theorem sc_is_number : FnScope ["thing"] ["thing"] (defScope s_is_number) := ⟨rfl, rfl, rfl, by decide +kernel, rfl, by decide +kernel, by decide +kernel⟩
theorem sc_is_whole : FnScope ["thing", "low", "high"] ["thing", "low", "high"] (defScope s_is_whole) := ⟨rfl, rfl, rfl, by decide +kernel, rfl, by decide +kernel, by decide +kernel⟩
theorem sc_ratio : FnScope ["top", "bottom", "divisor"] ["top", "bottom"] (defScope s_ratio) := ⟨rfl, rfl, rfl, by decide +kernel, rfl, by decide +kernel, by decide +kernel⟩
theorem sc_compare_ratios : FnScope ["one", "other", "difference"] ["one", "other"] (defScope s_compare_ratios) := ⟨rfl, rfl, rfl, by decide +kernel, rfl, by decide +kernel, by decide +kernel⟩
theorem sc_ratio_sum : FnScope ["one", "other"] ["one", "other"] (defScope s_ratio_sum) := ⟨rfl, rfl, rfl, by decide +kernel, rfl, by decide +kernel, by decide +kernel⟩
theorem sc_ratio_product : FnScope ["one", "other"] ["one", "other"] (defScope s_ratio_product) := ⟨rfl, rfl, rfl, by decide +kernel, rfl, by decide +kernel, by decide +kernel⟩
theorem sc__law_pen : FnScope ["_law_script", "_law_seed", "_law_cell"] ["_law_script"] (defScope s__law_pen) := ⟨rfl, rfl, rfl, by decide +kernel, rfl, by decide +kernel, by decide +kernel⟩
theorem sc__law_take : FnScope ["_law_pen_here", "_law_many", "_law_cell", "_law_digit"] ["_law_pen_here", "_law_many"] (defScope s__law_take) := ⟨rfl, rfl, rfl, by decide +kernel, rfl, by decide +kernel, by decide +kernel⟩
theorem sc__law_of : FnScope ["_law_pen_here", "_law_some"] ["_law_pen_here", "_law_some"] (defScope s__law_of) := ⟨rfl, rfl, rfl, by decide +kernel, rfl, by decide +kernel, by decide +kernel⟩
theorem sc__law_number : FnScope ["_law_pen_here", "_law_way"] ["_law_pen_here"] (defScope s__law_number) := ⟨rfl, rfl, rfl, by decide +kernel, rfl, by decide +kernel, by decide +kernel⟩
theorem sc__law_is_number : FnScope ["_law_thing"] ["_law_thing"] (defScope s__law_is_number) := ⟨rfl, rfl, rfl, by decide +kernel, rfl, by decide +kernel, by decide +kernel⟩
theorem sc__law_divisor : FnScope ["_law_one", "_law_other", "_law_k"] ["_law_one", "_law_other"] (defScope s__law_divisor) := ⟨rfl, rfl, rfl, by decide +kernel, rfl, by decide +kernel, by decide +kernel⟩
theorem sc__law_right : FnScope ["_law_thing", "_law_top", "_law_bottom"] ["_law_thing", "_law_top", "_law_bottom"] (defScope s__law_right) := ⟨rfl, rfl, rfl, by decide +kernel, rfl, by decide +kernel, by decide +kernel⟩
theorem sc__law_fraction : FnScope ["_law_pen_here", "_law_top", "_law_bottom", "_law_times"] ["_law_pen_here"] (defScope s__law_fraction) := ⟨rfl, rfl, rfl, by decide +kernel, rfl, by decide +kernel, by decide +kernel⟩
theorem sc__law_sign : FnScope ["_law_number_here"] ["_law_number_here"] (defScope s__law_sign) := ⟨rfl, rfl, rfl, by decide +kernel, rfl, by decide +kernel, by decide +kernel⟩
theorem sc__law_two : FnScope ["_law_one", "_law_other", "_law_first", "_law_second", "_law_due", "_law_told"] ["_law_one", "_law_other"] (defScope s__law_two) := ⟨rfl, rfl, rfl, by decide +kernel, rfl, by decide +kernel, by decide +kernel⟩
theorem sc__law_three : FnScope ["_law_one", "_law_two_here", "_law_three_here"] ["_law_one", "_law_two_here", "_law_three_here"] (defScope s__law_three) := ⟨rfl, rfl, rfl, by decide +kernel, rfl, by decide +kernel, by decide +kernel⟩
theorem sc__law_refused : FnScope ["_law_top", "_law_caught", "e"] ["_law_top"] (defScope s__law_refused) := ⟨rfl, rfl, rfl, by decide +kernel, rfl, by decide +kernel, by decide +kernel⟩
theorem sc__law_wholes : FnScope ["_law_pen_here", "_law_low", "_law_high", "_law_things", "_law_thing", "_law_due", "_law_told"] ["_law_pen_here"] (defScope s__law_wholes) := ⟨rfl, rfl, rfl, by decide +kernel, rfl, by decide +kernel, by decide +kernel⟩
theorem sc_law : FnScope ["_law_script", "_law_pen_here", "_law_rows", "_law_one", "_law_other", "_law_two_here", "_law_three_here", "_law_k", "_law_row"] ["_law_script"] (defScope s_law) := ⟨rfl, rfl, rfl, by decide +kernel, rfl, by decide +kernel, by decide +kernel⟩
theorem sci_BridgeError : FnScope ["self"] ["self"] (defScope si_BridgeError) := ⟨rfl, rfl, rfl, by decide +kernel, rfl, by decide +kernel, by decide +kernel⟩
theorem sci_BadRatio : FnScope ["self"] ["self"] (defScope si_BadRatio) := ⟨rfl, rfl, rfl, by decide +kernel, rfl, by decide +kernel, by decide +kernel⟩
structure Ad where
  f_is_number : Addr
  d_is_number : FuncData
  f_is_whole : Addr
  d_is_whole : FuncData
  f_ratio : Addr
  d_ratio : FuncData
  f_compare_ratios : Addr
  d_compare_ratios : FuncData
  f_ratio_sum : Addr
  d_ratio_sum : FuncData
  f_ratio_product : Addr
  d_ratio_product : FuncData
  f__law_pen : Addr
  d__law_pen : FuncData
  f__law_take : Addr
  d__law_take : FuncData
  f__law_of : Addr
  d__law_of : FuncData
  f__law_number : Addr
  d__law_number : FuncData
  f__law_is_number : Addr
  d__law_is_number : FuncData
  f__law_divisor : Addr
  d__law_divisor : FuncData
  f__law_right : Addr
  d__law_right : FuncData
  f__law_fraction : Addr
  d__law_fraction : FuncData
  f__law_sign : Addr
  d__law_sign : FuncData
  f__law_two : Addr
  d__law_two : FuncData
  f__law_three : Addr
  d__law_three : FuncData
  f__law_refused : Addr
  d__law_refused : FuncData
  f__law_wholes : Addr
  d__law_wholes : FuncData
  f_law : Addr
  d_law : FuncData
  c_BridgeError : Addr
  c_BadRatio : Addr
  i_BadRatio : Addr
  di_BadRatio : FuncData
def gt (a : Ad) : Gt := ⟨fun n => match n with
  | 0 => a.c_BridgeError
  | 1 => a.c_BadRatio
  | _ => 0, none⟩
structure Txt (K : PySem.W.Frag) (mg : Str → Option Value) (a : Ad) : Prop where
  t_is_number : Dfn K mg "is_number" "is_number" s_is_number ["thing"] a.f_is_number a.d_is_number
  t_is_whole : Dfn K mg "is_whole" "is_whole" s_is_whole ["thing", "low", "high"] a.f_is_whole a.d_is_whole
  t_ratio : Dfn K mg "ratio" "ratio" s_ratio ["top", "bottom"] a.f_ratio a.d_ratio
  t_compare_ratios : Dfn K mg "compare_ratios" "compare_ratios" s_compare_ratios ["one", "other"] a.f_compare_ratios a.d_compare_ratios
  t_ratio_sum : Dfn K mg "ratio_sum" "ratio_sum" s_ratio_sum ["one", "other"] a.f_ratio_sum a.d_ratio_sum
  t_ratio_product : Dfn K mg "ratio_product" "ratio_product" s_ratio_product ["one", "other"] a.f_ratio_product a.d_ratio_product
  t__law_pen : Dfn K mg "_law_pen" "_law_pen" s__law_pen ["_law_script"] a.f__law_pen a.d__law_pen
  t__law_take : Dfn K mg "_law_take" "_law_take" s__law_take ["_law_pen_here", "_law_many"] a.f__law_take a.d__law_take
  t__law_of : Dfn K mg "_law_of" "_law_of" s__law_of ["_law_pen_here", "_law_some"] a.f__law_of a.d__law_of
  t__law_number : Dfn K mg "_law_number" "_law_number" s__law_number ["_law_pen_here"] a.f__law_number a.d__law_number
  t__law_is_number : Dfn K mg "_law_is_number" "_law_is_number" s__law_is_number ["_law_thing"] a.f__law_is_number a.d__law_is_number
  t__law_divisor : Dfn K mg "_law_divisor" "_law_divisor" s__law_divisor ["_law_one", "_law_other"] a.f__law_divisor a.d__law_divisor
  t__law_right : Dfn K mg "_law_right" "_law_right" s__law_right ["_law_thing", "_law_top", "_law_bottom"] a.f__law_right a.d__law_right
  t__law_fraction : Dfn K mg "_law_fraction" "_law_fraction" s__law_fraction ["_law_pen_here"] a.f__law_fraction a.d__law_fraction
  t__law_sign : Dfn K mg "_law_sign" "_law_sign" s__law_sign ["_law_number_here"] a.f__law_sign a.d__law_sign
  t__law_two : Dfn K mg "_law_two" "_law_two" s__law_two ["_law_one", "_law_other"] a.f__law_two a.d__law_two
  t__law_three : Dfn K mg "_law_three" "_law_three" s__law_three ["_law_one", "_law_two_here", "_law_three_here"] a.f__law_three a.d__law_three
  t__law_refused : Dfn K mg "_law_refused" "_law_refused" s__law_refused ["_law_top"] a.f__law_refused a.d__law_refused
  t__law_wholes : Dfn K mg "_law_wholes" "_law_wholes" s__law_wholes ["_law_pen_here"] a.f__law_wholes a.d__law_wholes
  t_law : Dfn K mg "law" "law" s_law ["_law_script"] a.f_law a.d_law
  m_BridgeError : mg "BridgeError" = some (.ref a.c_BridgeError)
  m_BadRatio : mg "BadRatio" = some (.ref a.c_BadRatio)
  e_BadRatio : Err0 K mg "BadRatio" a.c_BadRatio a.i_BadRatio si_BadRatio "BadRatio.__init__" a.di_BadRatio
  n_abs : mg "abs" = none
  n_bool : mg "bool" = none
  n_int : mg "int" = none
  n_isinstance : mg "isinstance" = none
  n_len : mg "len" = none
  n_list : mg "list" = none
  n_range : mg "range" = none
  n_str : mg "str" = none
  n_tuple : mg "tuple" = none
  g_gcd : mg "gcd" = some (.builtin "math.gcd")
  x_rr : PySem.W.exmOne K (.ref a.c_BadRatio) (.ref a.c_BadRatio) = some true
  x_rb : PySem.W.exmOne K (.ref a.c_BadRatio) (.ref a.c_BridgeError) = some true
  x_ec : ExcC K a.c_BadRatio
  x_ki : PySem.W.kitOne K (.ref a.c_BadRatio) (.ref a.c_BadRatio) = some true
section
variable {P : Program} {w : World} {K : PySem.W.Frag} {mg : Str → Option Value} {base : Heap} {a : Ad}
def b_is_number : MS := (zRet (kAndV (kCall isiB (aCons (mvar 0) (aCons (kC (.ty "int")) aNil))) (kNotV (kCall isiB (aCons (mvar 0) (aCons (kC (.ty "bool")) aNil))))))
def m_is_number : List D → M D := mdef 1 b_is_number
theorem ok_is_number (T : Txt K mg a) : FnOk P w K mg base (L2.CX P w) 1 a.f_is_number a.d_is_number ["thing"] (spM (gt a) 1 m_is_number) :=
  ok_def T.t_is_number.fn sc_is_number rfl fun cdv A outer s H E hr => by
    have tk0 := takes_of (X := cxOf (L2.CX P w) P w K mg base ["thing"] "is_number" (defScope s_is_number) a.f_is_number cdv A outer s H E) (E := E) rfl rfl rfl rfl
    have po0 : PassesOwn (model P w) (cxOf (L2.CX P w) P w K mg base ["thing"] "is_number" (defScope s_is_number) a.f_is_number cdv A outer s H E).A (cxOf (L2.CX P w) P w K mg base ["thing"] "is_number" (defScope s_is_number) a.f_is_number cdv A outer s H E).env (cxOf (L2.CX P w) P w K mg base ["thing"] "is_number" (defScope s_is_number) a.f_is_number cdv A outer s H E).xe := passes_of rfl
    exact ⟨_, (dss_one (z_ret (x_and (x_callB (cr_isi rfl) prim_isiB T.n_isinstance (by decide +kernel) (a_cons (de_var 0) (a_cons (x_ty (n := "int") T.n_int (by decide +kernel)) a_nil))) (de_one (x_not (x_callB (cr_isi rfl) prim_isiB T.n_isinstance (by decide +kernel) (a_cons (de_var 0) (a_cons (x_ty (n := "bool") T.n_bool (by decide +kernel)) a_nil))))))))⟩
def b_is_whole : MS := (zRet (kAndV (kCall m_is_number (aCons (mvar 0) aNil)) (kCh leI leI (mvar 1) (mvar 0) (mvar 2))))
def m_is_whole : List D → M D := mdef 3 b_is_whole
theorem ok_is_whole (T : Txt K mg a) : FnOk P w K mg base (L2.CX P w) 2 a.f_is_whole a.d_is_whole ["thing", "low", "high"] (spM (gt a) 3 m_is_whole) :=
  ok_def T.t_is_whole.fn sc_is_whole rfl fun cdv A outer s H E hr => by
    have tk0 := takes_of (X := cxOf (L2.CX P w) P w K mg base ["thing", "low", "high"] "is_whole" (defScope s_is_whole) a.f_is_whole cdv A outer s H E) (E := E) rfl rfl rfl rfl
    have po0 : PassesOwn (model P w) (cxOf (L2.CX P w) P w K mg base ["thing", "low", "high"] "is_whole" (defScope s_is_whole) a.f_is_whole cdv A outer s H E).A (cxOf (L2.CX P w) P w K mg base ["thing", "low", "high"] "is_whole" (defScope s_is_whole) a.f_is_whole cdv A outer s H E).env (cxOf (L2.CX P w) P w K mg base ["thing", "low", "high"] "is_whole" (defScope s_is_whole) a.f_is_whole cdv A outer s H E).xe := passes_of rfl
    exact ⟨_, (dss_one (z_ret (x_and (x_call (ok_is_number T) (hr.mono (by decide)) tk0 T.t_is_number.m T.t_is_number.fn.kp T.t_is_number.b (a_cons (de_var 0) a_nil) (l_cons l_nil)) (de_one (x_chain op_le op_le prim_le prim_le (de_var 1) (de_var 0) (de_var 2))))))⟩
def b_ratio_0 : MS := (zIf (kB (kOp eqA (mvar 1) (kC (.int 0)))) (zRaise 1) zNx)
def b_ratio_1 : MS := (sasg (kCall gcdD (aCons (mvar 0) (aCons (mvar 1) aNil))) (gnm 2))
def b_ratio_2 : MS := (zIf (kB (kOp ltI (mvar 1) (kC (.int 0)))) (sasg (kUn negI (mvar 2)) (gnm 2)) zNx)
def b_ratio_3 : MS := (zRet (kCall tupD (aCons (kOp fdvI (mvar 0) (mvar 2)) (aCons (kOp fdvI (mvar 1) (mvar 2)) aNil))))
def b_ratio : MS := (sseq b_ratio_0 (sseq b_ratio_1 (sseq b_ratio_2 b_ratio_3)))
def m_ratio : List D → M D := mdef 3 b_ratio
theorem ok_ratio (T : Txt K mg a) : FnOk P w K mg base (L2.CX P w) 3 a.f_ratio a.d_ratio ["top", "bottom"] (spM (gt a) 2 m_ratio) :=
  ok_def T.t_ratio.fn sc_ratio rfl fun cdv A outer s H E hr => by
    have tk0 := takes_of (X := cxOf (L2.CX P w) P w K mg base ["top", "bottom", "divisor"] "ratio" (defScope s_ratio) a.f_ratio cdv A outer s H E) (E := E) rfl rfl rfl rfl
    have po0 : PassesOwn (model P w) (cxOf (L2.CX P w) P w K mg base ["top", "bottom", "divisor"] "ratio" (defScope s_ratio) a.f_ratio cdv A outer s H E).A (cxOf (L2.CX P w) P w K mg base ["top", "bottom", "divisor"] "ratio" (defScope s_ratio) a.f_ratio cdv A outer s H E).env (cxOf (L2.CX P w) P w K mg base ["top", "bottom", "divisor"] "ratio" (defScope s_ratio) a.f_ratio cdv A outer s H E).xe := passes_of rfl
    exact ⟨_, (dss_cons (z_if (q_cmp (op_eqA rfl hr.units) prim_eq (de_var 1) x_int) (dss_one (z_raise0 (cn := 1) rfl tk0 T.e_BadRatio sci_BadRatio rfl (hr.mono (by decide)))) z_nil) (dss_cons (ds_set (i := 2) sc_ratio.nd (x_callG cr_gcd prim_gcd T.g_gcd (a_cons (de_var 0) (a_cons (de_var 1) a_nil)))) (dss_cons (z_if (q_cmp op_lt prim_lt (de_var 1) x_int) (dss_one (ds_set (i := 2) sc_ratio.nd (x_un un_neg prim_neg (de_var 2)))) z_nil) (dss_one (z_ret (x_tup (a_cons (x_op op_fdivX prim_fdv (de_var 0) (de_var 2)) (a_cons (x_op op_fdivX prim_fdv (de_var 1) (de_var 2)) a_nil))))))))⟩
def b_compare_ratios_0 : MS := (sasg (kOp subI (kOp mulI (kOp itemD (mvar 0) (kC (.int 0))) (kOp itemD (mvar 1) (kC (.int 1)))) (kOp mulI (kOp itemD (mvar 1) (kC (.int 0))) (kOp itemD (mvar 0) (kC (.int 1))))) (gnm 2))
def b_compare_ratios_1 : MS := (zIf (kB (kOp ltI (mvar 2) (kC (.int 0)))) (zRet (kUn negI (kC (.int 1)))) zNx)
def b_compare_ratios_2 : MS := (zRet (kIf (kB (kOp gtI (mvar 2) (kC (.int 0)))) (kC (.int 1)) (kC (.int 0))))
def b_compare_ratios : MS := (sseq b_compare_ratios_0 (sseq b_compare_ratios_1 b_compare_ratios_2))
def m_compare_ratios : List D → M D := mdef 3 b_compare_ratios
theorem ok_compare_ratios (T : Txt K mg a) : FnOk P w K mg base (L2.CX P w) 1 a.f_compare_ratios a.d_compare_ratios ["one", "other"] (spM (gt a) 2 m_compare_ratios) :=
  ok_def T.t_compare_ratios.fn sc_compare_ratios rfl fun cdv A outer s H E hr => by
    have tk0 := takes_of (X := cxOf (L2.CX P w) P w K mg base ["one", "other", "difference"] "compare_ratios" (defScope s_compare_ratios) a.f_compare_ratios cdv A outer s H E) (E := E) rfl rfl rfl rfl
    have po0 : PassesOwn (model P w) (cxOf (L2.CX P w) P w K mg base ["one", "other", "difference"] "compare_ratios" (defScope s_compare_ratios) a.f_compare_ratios cdv A outer s H E).A (cxOf (L2.CX P w) P w K mg base ["one", "other", "difference"] "compare_ratios" (defScope s_compare_ratios) a.f_compare_ratios cdv A outer s H E).env (cxOf (L2.CX P w) P w K mg base ["one", "other", "difference"] "compare_ratios" (defScope s_compare_ratios) a.f_compare_ratios cdv A outer s H E).xe := passes_of rfl
    exact ⟨_, (dss_cons (ds_set (i := 2) sc_compare_ratios.nd (x_op op_sub prim_sub (x_op op_mulX prim_mul (x_ix rfl (de_var 0) x_int) (x_ix rfl (de_var 1) x_int)) (x_op op_mulX prim_mul (x_ix rfl (de_var 1) x_int) (x_ix rfl (de_var 0) x_int)))) (dss_cons (z_if (q_cmp op_lt prim_lt (de_var 2) x_int) (dss_one (z_ret (x_un un_neg prim_neg x_int))) z_nil) (dss_one (z_ret (x_ifExp (q_cmp op_gt prim_gt (de_var 2) x_int) x_int x_int)))))⟩
def b_ratio_sum : MS := (zRet (kCall m_ratio (aCons (kOp addIL (kOp mulI (kOp itemD (mvar 0) (kC (.int 0))) (kOp itemD (mvar 1) (kC (.int 1)))) (kOp mulI (kOp itemD (mvar 1) (kC (.int 0))) (kOp itemD (mvar 0) (kC (.int 1))))) (aCons (kOp mulI (kOp itemD (mvar 0) (kC (.int 1))) (kOp itemD (mvar 1) (kC (.int 1)))) aNil))))
def m_ratio_sum : List D → M D := mdef 2 b_ratio_sum
theorem ok_ratio_sum (T : Txt K mg a) : FnOk P w K mg base (L2.CX P w) 4 a.f_ratio_sum a.d_ratio_sum ["one", "other"] (spM (gt a) 2 m_ratio_sum) :=
  ok_def T.t_ratio_sum.fn sc_ratio_sum rfl fun cdv A outer s H E hr => by
    have tk0 := takes_of (X := cxOf (L2.CX P w) P w K mg base ["one", "other"] "ratio_sum" (defScope s_ratio_sum) a.f_ratio_sum cdv A outer s H E) (E := E) rfl rfl rfl rfl
    have po0 : PassesOwn (model P w) (cxOf (L2.CX P w) P w K mg base ["one", "other"] "ratio_sum" (defScope s_ratio_sum) a.f_ratio_sum cdv A outer s H E).A (cxOf (L2.CX P w) P w K mg base ["one", "other"] "ratio_sum" (defScope s_ratio_sum) a.f_ratio_sum cdv A outer s H E).env (cxOf (L2.CX P w) P w K mg base ["one", "other"] "ratio_sum" (defScope s_ratio_sum) a.f_ratio_sum cdv A outer s H E).xe := passes_of rfl
    exact ⟨_, (dss_one (z_ret (x_call (ok_ratio T) (hr.mono (by decide)) tk0 T.t_ratio.m T.t_ratio.fn.kp T.t_ratio.b (a_cons (x_op (op_add.or op_cat) prim_addIL (x_op op_mulX prim_mul (x_ix rfl (de_var 0) x_int) (x_ix rfl (de_var 1) x_int)) (x_op op_mulX prim_mul (x_ix rfl (de_var 1) x_int) (x_ix rfl (de_var 0) x_int))) (a_cons (x_op op_mulX prim_mul (x_ix rfl (de_var 0) x_int) (x_ix rfl (de_var 1) x_int)) a_nil)) (l_cons (l_cons l_nil)))))⟩
def b_ratio_product : MS := (zRet (kCall m_ratio (aCons (kOp mulI (kOp itemD (mvar 0) (kC (.int 0))) (kOp itemD (mvar 1) (kC (.int 0)))) (aCons (kOp mulI (kOp itemD (mvar 0) (kC (.int 1))) (kOp itemD (mvar 1) (kC (.int 1)))) aNil))))
def m_ratio_product : List D → M D := mdef 2 b_ratio_product
theorem ok_ratio_product (T : Txt K mg a) : FnOk P w K mg base (L2.CX P w) 4 a.f_ratio_product a.d_ratio_product ["one", "other"] (spM (gt a) 2 m_ratio_product) :=
  ok_def T.t_ratio_product.fn sc_ratio_product rfl fun cdv A outer s H E hr => by
    have tk0 := takes_of (X := cxOf (L2.CX P w) P w K mg base ["one", "other"] "ratio_product" (defScope s_ratio_product) a.f_ratio_product cdv A outer s H E) (E := E) rfl rfl rfl rfl
    have po0 : PassesOwn (model P w) (cxOf (L2.CX P w) P w K mg base ["one", "other"] "ratio_product" (defScope s_ratio_product) a.f_ratio_product cdv A outer s H E).A (cxOf (L2.CX P w) P w K mg base ["one", "other"] "ratio_product" (defScope s_ratio_product) a.f_ratio_product cdv A outer s H E).env (cxOf (L2.CX P w) P w K mg base ["one", "other"] "ratio_product" (defScope s_ratio_product) a.f_ratio_product cdv A outer s H E).xe := passes_of rfl
    exact ⟨_, (dss_one (z_ret (x_call (ok_ratio T) (hr.mono (by decide)) tk0 T.t_ratio.m T.t_ratio.fn.kp T.t_ratio.b (a_cons (x_op op_mulX prim_mul (x_ix rfl (de_var 0) x_int) (x_ix rfl (de_var 1) x_int)) (a_cons (x_op op_mulX prim_mul (x_ix rfl (de_var 0) x_int) (x_ix rfl (de_var 1) x_int)) a_nil)) (l_cons (l_cons l_nil)))))⟩
def b__law_take_0 : MS := (penPut (mvar 0) (kOp addIL (penGet (mvar 0) .turn) (kC (.int 1))) .turn)
def b__law_take_1 : MS := (zIf (kAnd (kB (kOp eqA (penGet (mvar 0) .digits) (kC (.int 0)))) (kB (kOp ltI (penGet (mvar 0) .next) (kCall lenD (aCons (penGet (mvar 0) .cells) aNil))))) (sseq (sasg (kCall intD (aCons (kOp itemD (penGet (mvar 0) .cells) (penGet (mvar 0) .next)) aNil)) (gnm 2)) (sseq (penPut (mvar 0) (kOp addIL (penGet (mvar 0) .next) (kC (.int 1))) .next) (zIf (kB (kOp geI (mvar 2) (kOp powI (kC (.int 10)) (kC (.int 18))))) (sseq (penPut (mvar 0) (kOp subI (mvar 2) (kOp powI (kC (.int 10)) (kC (.int 18)))) .rest) (penPut (mvar 0) (kC (.int 40)) .digits)) (penPut (mvar 0) (kOp fmdI (kCall intD (aCons (kOp addIL (kOp addIL (kOp mulI (penGet (mvar 0) .seed) (kC (.int 39373))) (kOp fmdI (mvar 2) (kC (.int 2147483423)))) (kC (.int 7))) aNil)) (kC (.int 2147483489))) .seed)))) zNx)
def b__law_take_2 : MS := (zIf (kB (kOp gtI (penGet (mvar 0) .digits) (kC (.int 0)))) (sseq (penPut (mvar 0) (kOp subI (penGet (mvar 0) .digits) (kC (.int 1))) .digits) (sseq (sasg (kOp fmdI (kCall intD (aCons (penGet (mvar 0) .rest) aNil)) (mvar 1)) (gnm 3)) (sseq (penPut (mvar 0) (kOp fdvI (penGet (mvar 0) .rest) (mvar 1)) .rest) (zRet (mvar 3))))) zNx)
def b__law_take_3 : MS := (penPut (mvar 0) (kOp fmdI (kCall intD (aCons (kOp addIL (kOp addIL (kOp mulI (penGet (mvar 0) .seed) (kC (.int 48271))) (kOp mulI (kC (.int 13)) (penGet (mvar 0) .turn))) (kC (.int 5))) aNil)) (kC (.int 2147483647))) .seed)
def b__law_take_4 : MS := (zRet (kOp fmdI (kOp fdvI (kOp fmdI (kCall intD (aCons (kOp mulI (penGet (mvar 0) .seed) (kC (.int 16807))) aNil)) (kC (.int 2147483629))) (kC (.int 64))) (mvar 1)))
def b__law_take : MS := (sseq b__law_take_0 (sseq b__law_take_1 (sseq b__law_take_2 (sseq b__law_take_3 b__law_take_4))))
def m__law_take : List D → M D := mdef 4 b__law_take
theorem ok__law_take (T : Txt K mg a) : FnOk P w K mg base (L2.CX P w) 1 a.f__law_take a.d__law_take ["_law_pen_here", "_law_many"] (spM (gt a) 2 m__law_take) :=
  ok_def T.t__law_take.fn sc__law_take rfl fun cdv A outer s H E hr => by
    have tk0 := takes_of (X := cxOf (L2.CX P w) P w K mg base ["_law_pen_here", "_law_many", "_law_cell", "_law_digit"] "_law_take" (defScope s__law_take) a.f__law_take cdv A outer s H E) (E := E) rfl rfl rfl rfl
    have po0 : PassesOwn (model P w) (cxOf (L2.CX P w) P w K mg base ["_law_pen_here", "_law_many", "_law_cell", "_law_digit"] "_law_take" (defScope s__law_take) a.f__law_take cdv A outer s H E).A (cxOf (L2.CX P w) P w K mg base ["_law_pen_here", "_law_many", "_law_cell", "_law_digit"] "_law_take" (defScope s__law_take) a.f__law_take cdv A outer s H E).env (cxOf (L2.CX P w) P w K mg base ["_law_pen_here", "_law_many", "_law_cell", "_law_digit"] "_law_take" (defScope s__law_take) a.f__law_take cdv A outer s H E).xe := passes_of rfl
    exact ⟨_, (dss_cons (ds_penPut .turn (hu_of hr) (de_var 0) (x_op (op_add.or op_cat) prim_addIL (de_penGet .turn (hu_of hr) (de_var 0) rfl) x_int) rfl) (dss_cons (z_if (dt_w (w_and (q_cmp (op_eqA rfl hr.units) prim_eq (de_penGet .digits (hu_of hr) (de_var 0) rfl) x_int) (w_and1 (q_cmp op_lt prim_lt (de_penGet .next (hu_of hr) (de_var 0) rfl) (x_callB (cr_len rfl) (prim_len) T.n_len (by decide +kernel) (a_cons (de_penGet .cells (hu_of hr) (de_var 0) rfl) a_nil)))))) (dss_cons (ds_set (i := 2) sc__law_take.nd (x_callTy call_int1 prim_int T.n_int (by decide +kernel) (a_cons (x_ix rfl (de_penGet .cells (hu_of hr) (de_var 0) rfl) (de_penGet .next (hu_of hr) (de_var 0) rfl)) a_nil))) (dss_cons (ds_penPut .next (hu_of hr) (de_var 0) (x_op (op_add.or op_cat) prim_addIL (de_penGet .next (hu_of hr) (de_var 0) rfl) x_int) rfl) (dss_one (z_if (q_cmp op_ge prim_ge (de_var 2) (x_op op_pow prim_pow x_int x_int)) (dss_cons (ds_penPut .rest (hu_of hr) (de_var 0) (x_op op_sub prim_sub (de_var 2) (x_op op_pow prim_pow x_int x_int)) rfl) (dss_one (ds_penPut .digits (hu_of hr) (de_var 0) x_int rfl))) (dss_one (ds_penPut .seed (hu_of hr) (de_var 0) (x_op op_modN prim_fmd (x_callTy call_int1 prim_int T.n_int (by decide +kernel) (a_cons (x_op (op_add.or op_cat) prim_addIL (x_op (op_add.or op_cat) prim_addIL (x_op op_mulX prim_mul (de_penGet .seed (hu_of hr) (de_var 0) rfl) x_int) (x_op op_modN prim_fmd (de_var 2) x_int)) x_int) a_nil)) x_int) rfl)))))) z_nil) (dss_cons (z_if (q_cmp op_gt prim_gt (de_penGet .digits (hu_of hr) (de_var 0) rfl) x_int) (dss_cons (ds_penPut .digits (hu_of hr) (de_var 0) (x_op op_sub prim_sub (de_penGet .digits (hu_of hr) (de_var 0) rfl) x_int) rfl) (dss_cons (ds_set (i := 3) sc__law_take.nd (x_op op_modN prim_fmd (x_callTy call_int1 prim_int T.n_int (by decide +kernel) (a_cons (de_penGet .rest (hu_of hr) (de_var 0) rfl) a_nil)) (de_var 1))) (dss_cons (ds_penPut .rest (hu_of hr) (de_var 0) (x_op op_fdivX prim_fdv (de_penGet .rest (hu_of hr) (de_var 0) rfl) (de_var 1)) rfl) (dss_one (z_ret (de_var 3)))))) z_nil) (dss_cons (ds_penPut .seed (hu_of hr) (de_var 0) (x_op op_modN prim_fmd (x_callTy call_int1 prim_int T.n_int (by decide +kernel) (a_cons (x_op (op_add.or op_cat) prim_addIL (x_op (op_add.or op_cat) prim_addIL (x_op op_mulX prim_mul (de_penGet .seed (hu_of hr) (de_var 0) rfl) x_int) (x_op op_mulX prim_mul x_int (de_penGet .turn (hu_of hr) (de_var 0) rfl))) x_int) a_nil)) x_int) rfl) (dss_one (z_ret (x_op op_modN prim_fmd (x_op op_fdivX prim_fdv (x_op op_modN prim_fmd (x_callTy call_int1 prim_int T.n_int (by decide +kernel) (a_cons (x_op op_mulX prim_mul (de_penGet .seed (hu_of hr) (de_var 0) rfl) x_int) a_nil)) x_int) x_int) (de_var 1))))))))⟩
def b__law_of : MS := (zRet (kOp itemD (mvar 1) (kCall m__law_take (aCons (mvar 0) (aCons (kCall lenD (aCons (mvar 1) aNil)) aNil)))))
def m__law_of : List D → M D := mdef 2 b__law_of
theorem ok__law_of (T : Txt K mg a) : FnOk P w K mg base (L2.CX P w) 2 a.f__law_of a.d__law_of ["_law_pen_here", "_law_some"] (spM (gt a) 2 m__law_of) :=
  ok_def T.t__law_of.fn sc__law_of rfl fun cdv A outer s H E hr => by
    have tk0 := takes_of (X := cxOf (L2.CX P w) P w K mg base ["_law_pen_here", "_law_some"] "_law_of" (defScope s__law_of) a.f__law_of cdv A outer s H E) (E := E) rfl rfl rfl rfl
    have po0 : PassesOwn (model P w) (cxOf (L2.CX P w) P w K mg base ["_law_pen_here", "_law_some"] "_law_of" (defScope s__law_of) a.f__law_of cdv A outer s H E).A (cxOf (L2.CX P w) P w K mg base ["_law_pen_here", "_law_some"] "_law_of" (defScope s__law_of) a.f__law_of cdv A outer s H E).env (cxOf (L2.CX P w) P w K mg base ["_law_pen_here", "_law_some"] "_law_of" (defScope s__law_of) a.f__law_of cdv A outer s H E).xe := passes_of rfl
    exact ⟨_, (dss_one (z_ret (x_ix rfl (de_var 1) (x_call (ok__law_take T) (hr.mono (by decide)) tk0 T.t__law_take.m T.t__law_take.fn.kp T.t__law_take.b (a_cons (de_var 0) (a_cons (x_callB (cr_len rfl) (prim_len) T.n_len (by decide +kernel) (a_cons (de_var 1) a_nil)) a_nil)) (l_cons (l_cons l_nil))))))⟩
def b__law_number_0 : MS := (sasg (kCall m__law_take (aCons (mvar 0) (aCons (kC (.int 8)) aNil))) (gnm 1))
def b__law_number_1 : MS := (zIf (kB (kOp eqA (mvar 1) (kC (.int 0)))) (zRet (kC (.int 0))) zNx)
def b__law_number_2 : MS := (zIf (kB (kOp eqA (mvar 1) (kC (.int 1)))) (zRet (kOp subI (kOp addIL (kCall m__law_of (aCons (mvar 0) (aCons (kCall lstD (aCons (kOp powI (kC (.int 10)) (kC (.int 30))) (aCons (kUn negI (kOp powI (kC (.int 10)) (kC (.int 30)))) aNil))) aNil))) (kCall m__law_take (aCons (mvar 0) (aCons (kC (.int 7)) aNil)))) (kC (.int 3)))) zNx)
def b__law_number_3 : MS := (zIf (kB (kOp eqA (mvar 1) (kC (.int 2)))) (zRet (kOp subI (kCall m__law_take (aCons (mvar 0) (aCons (kOp addIL (kOp mulI (kC (.int 2)) (kOp powI (kC (.int 10)) (kC (.int 9)))) (kC (.int 1))) aNil))) (kOp powI (kC (.int 10)) (kC (.int 9))))) zNx)
def b__law_number_4 : MS := (zRet (kOp subI (kCall m__law_take (aCons (mvar 0) (aCons (kC (.int 41)) aNil))) (kC (.int 20))))
def b__law_number : MS := (sseq b__law_number_0 (sseq b__law_number_1 (sseq b__law_number_2 (sseq b__law_number_3 b__law_number_4))))
def m__law_number : List D → M D := mdef 2 b__law_number
theorem ok__law_number (T : Txt K mg a) : FnOk P w K mg base (L2.CX P w) 3 a.f__law_number a.d__law_number ["_law_pen_here"] (spM (gt a) 1 m__law_number) :=
  ok_def T.t__law_number.fn sc__law_number rfl fun cdv A outer s H E hr => by
    have tk0 := takes_of (X := cxOf (L2.CX P w) P w K mg base ["_law_pen_here", "_law_way"] "_law_number" (defScope s__law_number) a.f__law_number cdv A outer s H E) (E := E) rfl rfl rfl rfl
    have po0 : PassesOwn (model P w) (cxOf (L2.CX P w) P w K mg base ["_law_pen_here", "_law_way"] "_law_number" (defScope s__law_number) a.f__law_number cdv A outer s H E).A (cxOf (L2.CX P w) P w K mg base ["_law_pen_here", "_law_way"] "_law_number" (defScope s__law_number) a.f__law_number cdv A outer s H E).env (cxOf (L2.CX P w) P w K mg base ["_law_pen_here", "_law_way"] "_law_number" (defScope s__law_number) a.f__law_number cdv A outer s H E).xe := passes_of rfl
    exact ⟨_, (dss_cons (ds_set (i := 1) sc__law_number.nd (x_call (ok__law_take T) (hr.mono (by decide)) tk0 T.t__law_take.m T.t__law_take.fn.kp T.t__law_take.b (a_cons (de_var 0) (a_cons x_int a_nil)) (l_cons (l_cons l_nil)))) (dss_cons (z_if (q_cmp (op_eqA rfl hr.units) prim_eq (de_var 1) x_int) (dss_one (z_ret x_int)) z_nil) (dss_cons (z_if (q_cmp (op_eqA rfl hr.units) prim_eq (de_var 1) x_int) (dss_one (z_ret (x_op op_sub prim_sub (x_op (op_add.or op_cat) prim_addIL (x_call (ok__law_of T) (hr.mono (by decide)) tk0 T.t__law_of.m T.t__law_of.fn.kp T.t__law_of.b (a_cons (de_var 0) (a_cons (x_lst (a_cons (x_op op_pow prim_pow x_int x_int) (a_cons (x_un un_neg prim_neg (x_op op_pow prim_pow x_int x_int)) a_nil))) a_nil)) (l_cons (l_cons l_nil))) (x_call (ok__law_take T) (hr.mono (by decide)) tk0 T.t__law_take.m T.t__law_take.fn.kp T.t__law_take.b (a_cons (de_var 0) (a_cons x_int a_nil)) (l_cons (l_cons l_nil)))) x_int))) z_nil) (dss_cons (z_if (q_cmp (op_eqA rfl hr.units) prim_eq (de_var 1) x_int) (dss_one (z_ret (x_op op_sub prim_sub (x_call (ok__law_take T) (hr.mono (by decide)) tk0 T.t__law_take.m T.t__law_take.fn.kp T.t__law_take.b (a_cons (de_var 0) (a_cons (x_op (op_add.or op_cat) prim_addIL (x_op op_mulX prim_mul x_int (x_op op_pow prim_pow x_int x_int)) x_int) a_nil)) (l_cons (l_cons l_nil))) (x_op op_pow prim_pow x_int x_int)))) z_nil) (dss_one (z_ret (x_op op_sub prim_sub (x_call (ok__law_take T) (hr.mono (by decide)) tk0 T.t__law_take.m T.t__law_take.fn.kp T.t__law_take.b (a_cons (de_var 0) (a_cons x_int a_nil)) (l_cons (l_cons l_nil))) x_int)))))))⟩
def b__law_is_number : MS := (zRet (kAndV (kCall isiB (aCons (mvar 0) (aCons (kC (.ty "int")) aNil))) (kNotV (kCall isiB (aCons (mvar 0) (aCons (kC (.ty "bool")) aNil))))))
def m__law_is_number : List D → M D := mdef 1 b__law_is_number
theorem ok__law_is_number (T : Txt K mg a) : FnOk P w K mg base (L2.CX P w) 1 a.f__law_is_number a.d__law_is_number ["_law_thing"] (spM (gt a) 1 m__law_is_number) :=
  ok_def T.t__law_is_number.fn sc__law_is_number rfl fun cdv A outer s H E hr => by
    have tk0 := takes_of (X := cxOf (L2.CX P w) P w K mg base ["_law_thing"] "_law_is_number" (defScope s__law_is_number) a.f__law_is_number cdv A outer s H E) (E := E) rfl rfl rfl rfl
    have po0 : PassesOwn (model P w) (cxOf (L2.CX P w) P w K mg base ["_law_thing"] "_law_is_number" (defScope s__law_is_number) a.f__law_is_number cdv A outer s H E).A (cxOf (L2.CX P w) P w K mg base ["_law_thing"] "_law_is_number" (defScope s__law_is_number) a.f__law_is_number cdv A outer s H E).env (cxOf (L2.CX P w) P w K mg base ["_law_thing"] "_law_is_number" (defScope s__law_is_number) a.f__law_is_number cdv A outer s H E).xe := passes_of rfl
    exact ⟨_, (dss_one (z_ret (x_and (x_callB (cr_isi rfl) prim_isiB T.n_isinstance (by decide +kernel) (a_cons (de_var 0) (a_cons (x_ty (n := "int") T.n_int (by decide +kernel)) a_nil))) (de_one (x_not (x_callB (cr_isi rfl) prim_isiB T.n_isinstance (by decide +kernel) (a_cons (de_var 0) (a_cons (x_ty (n := "bool") T.n_bool (by decide +kernel)) a_nil))))))))⟩
def lb__law_divisor_0 : MS := (sseq (zIf (kB (kOp eqA (mvar 1) (kC (.int 0)))) zBk zNx) (spar 0 1 (aCons (mvar 1) (aCons (kOp fmdI (kCall intD (aCons (mvar 0) aNil)) (mvar 1)) aNil))))
def b__law_divisor_0 : MS := (spar 0 1 (aCons (kCall absD (aCons (mvar 0) aNil)) (aCons (kCall absD (aCons (mvar 1) aNil)) aNil)))
def b__law_divisor_1 : MS := (sfor (iR1 (aCons (kC (.int 3000)) aNil)) (gnm 2) lb__law_divisor_0)
def b__law_divisor_2 : MS := (zRet (mvar 0))
def b__law_divisor : MS := (sseq b__law_divisor_0 (sseq b__law_divisor_1 b__law_divisor_2))
def m__law_divisor : List D → M D := mdef 3 b__law_divisor
theorem ok__law_divisor (T : Txt K mg a) : FnOk P w K mg base (L2.CX P w) 1 a.f__law_divisor a.d__law_divisor ["_law_one", "_law_other"] (spM (gt a) 2 m__law_divisor) :=
  ok_def T.t__law_divisor.fn sc__law_divisor rfl fun cdv A outer s H E hr => by
    have tk0 := takes_of (X := cxOf (L2.CX P w) P w K mg base ["_law_one", "_law_other", "_law_k"] "_law_divisor" (defScope s__law_divisor) a.f__law_divisor cdv A outer s H E) (E := E) rfl rfl rfl rfl
    have po0 : PassesOwn (model P w) (cxOf (L2.CX P w) P w K mg base ["_law_one", "_law_other", "_law_k"] "_law_divisor" (defScope s__law_divisor) a.f__law_divisor cdv A outer s H E).A (cxOf (L2.CX P w) P w K mg base ["_law_one", "_law_other", "_law_k"] "_law_divisor" (defScope s__law_divisor) a.f__law_divisor cdv A outer s H E).env (cxOf (L2.CX P w) P w K mg base ["_law_one", "_law_other", "_law_k"] "_law_divisor" (defScope s__law_divisor) a.f__law_divisor cdv A outer s H E).xe := passes_of rfl
    exact ⟨_, (dss_cons (ds_par (i := 0) (j := 1) rfl sc__law_divisor.nd rfl rfl (by decide) rfl rfl (a_cons (x_callB call_abs prim_abs T.n_abs (by decide +kernel) (a_cons (de_var 0) a_nil)) (a_cons (x_callB call_abs prim_abs T.n_abs (by decide +kernel) (a_cons (de_var 1) a_nil)) a_nil))) (dss_cons (ds_for (vs := [2]) po0 rfl (i_range1 T.n_range (a_cons x_int a_nil)) (dg_name (i := 2) (by decide) sc__law_divisor.nd) (dss_cons (z_if (q_cmp (op_eqA rfl hr.units) prim_eq (de_var 1) x_int) (dss_one z_break) z_nil) (dss_one (ds_par (i := 0) (j := 1) rfl sc__law_divisor.nd rfl rfl (by decide) rfl rfl (a_cons (de_var 1) (a_cons (x_op op_modN prim_fmd (x_callTy call_int1 prim_int T.n_int (by decide +kernel) (a_cons (de_var 0) a_nil)) (de_var 1)) a_nil)))))) (dss_one (z_ret (de_var 0)))))⟩
def b__law_right_0 : MS := (zIf (kOr (kNot (kB (kCall isiB (aCons (mvar 0) (aCons (kC (.ty "tuple")) aNil))))) (kOr (kB (kOp neA (kCall lenD (aCons (mvar 0) aNil)) (kC (.int 2)))) (kOr (kNot (kB (kCall m__law_is_number (aCons (kOp itemD (mvar 0) (kC (.int 0))) aNil)))) (kNot (kB (kCall m__law_is_number (aCons (kOp itemD (mvar 0) (kC (.int 1))) aNil))))))) (zRet (kC (.bl false))) zNx)
def b__law_right_1 : MS := (zIf (kOr (kB (kOp ltI (kOp itemD (mvar 0) (kC (.int 1))) (kC (.int 1)))) (kB (kOp neA (kOp mulI (kOp itemD (mvar 0) (kC (.int 0))) (mvar 2)) (kOp mulI (mvar 1) (kOp itemD (mvar 0) (kC (.int 1))))))) (zRet (kC (.bl false))) zNx)
def b__law_right_2 : MS := (zRet (kOp eqA (kCall m__law_divisor (aCons (kOp itemD (mvar 0) (kC (.int 0))) (aCons (kOp itemD (mvar 0) (kC (.int 1))) aNil))) (kC (.int 1))))
def b__law_right : MS := (sseq b__law_right_0 (sseq b__law_right_1 b__law_right_2))
def m__law_right : List D → M D := mdef 3 b__law_right
theorem ok__law_right (T : Txt K mg a) : FnOk P w K mg base (L2.CX P w) 2 a.f__law_right a.d__law_right ["_law_thing", "_law_top", "_law_bottom"] (spM (gt a) 3 m__law_right) :=
  ok_def T.t__law_right.fn sc__law_right rfl fun cdv A outer s H E hr => by
    have tk0 := takes_of (X := cxOf (L2.CX P w) P w K mg base ["_law_thing", "_law_top", "_law_bottom"] "_law_right" (defScope s__law_right) a.f__law_right cdv A outer s H E) (E := E) rfl rfl rfl rfl
    have po0 : PassesOwn (model P w) (cxOf (L2.CX P w) P w K mg base ["_law_thing", "_law_top", "_law_bottom"] "_law_right" (defScope s__law_right) a.f__law_right cdv A outer s H E).A (cxOf (L2.CX P w) P w K mg base ["_law_thing", "_law_top", "_law_bottom"] "_law_right" (defScope s__law_right) a.f__law_right cdv A outer s H E).env (cxOf (L2.CX P w) P w K mg base ["_law_thing", "_law_top", "_law_bottom"] "_law_right" (defScope s__law_right) a.f__law_right cdv A outer s H E).xe := passes_of rfl
    exact ⟨_, (dss_cons (z_if (dt_w (w_or (q_not (q_val (x_callB (cr_isi rfl) prim_isiB T.n_isinstance (by decide +kernel) (a_cons (de_var 0) (a_cons (x_ty (n := "tuple") T.n_tuple (by decide +kernel)) a_nil))))) (w_or (q_cmp (op_neA rfl hr.units) prim_ne (x_callB (cr_len rfl) (prim_len) T.n_len (by decide +kernel) (a_cons (de_var 0) a_nil)) x_int) (w_or (q_not (q_val (x_call (ok__law_is_number T) (hr.mono (by decide)) tk0 T.t__law_is_number.m T.t__law_is_number.fn.kp T.t__law_is_number.b (a_cons (x_ix rfl (de_var 0) x_int) a_nil) (l_cons l_nil)))) (w_or1 (q_not (q_val (x_call (ok__law_is_number T) (hr.mono (by decide)) tk0 T.t__law_is_number.m T.t__law_is_number.fn.kp T.t__law_is_number.b (a_cons (x_ix rfl (de_var 0) x_int) a_nil) (l_cons l_nil))))))))) (dss_one (z_ret x_bl)) z_nil) (dss_cons (z_if (dt_w (w_or (q_cmp op_lt prim_lt (x_ix rfl (de_var 0) x_int) x_int) (w_or1 (q_cmp (op_neA rfl hr.units) prim_ne (x_op op_mulX prim_mul (x_ix rfl (de_var 0) x_int) (de_var 2)) (x_op op_mulX prim_mul (de_var 1) (x_ix rfl (de_var 0) x_int)))))) (dss_one (z_ret x_bl)) z_nil) (dss_one (z_ret (x_cmp (op_eqA rfl hr.units) prim_eq (x_call (ok__law_divisor T) (hr.mono (by decide)) tk0 T.t__law_divisor.m T.t__law_divisor.fn.kp T.t__law_divisor.b (a_cons (x_ix rfl (de_var 0) x_int) (a_cons (x_ix rfl (de_var 0) x_int) a_nil)) (l_cons (l_cons l_nil))) x_int)))))⟩
def b__law_fraction_0 : MS := (sasg (kCall m__law_number (aCons (mvar 0) aNil)) (gnm 1))
def b__law_fraction_1 : MS := (sasg (kCall m__law_number (aCons (mvar 0) aNil)) (gnm 2))
def b__law_fraction_2 : MS := (zIf (kB (kOp eqA (mvar 2) (kC (.int 0)))) (sasg (kUn negI (kC (.int 7))) (gnm 2)) zNx)
def b__law_fraction_3 : MS := (sasg (kCall m__law_of (aCons (mvar 0) (aCons (kCall lstD (aCons (kC (.int 1)) (aCons (kC (.int 1)) (aCons (kC (.int 6)) (aCons (kUn negI (kC (.int 10))) (aCons (kOp powI (kC (.int 10)) (kC (.int 20))) aNil)))))) aNil))) (gnm 3))
def b__law_fraction_4 : MS := (zRet (kCall tupD (aCons (kOp mulI (mvar 1) (mvar 3)) (aCons (kOp mulI (mvar 2) (mvar 3)) aNil))))
def b__law_fraction : MS := (sseq b__law_fraction_0 (sseq b__law_fraction_1 (sseq b__law_fraction_2 (sseq b__law_fraction_3 b__law_fraction_4))))
def m__law_fraction : List D → M D := mdef 4 b__law_fraction
theorem ok__law_fraction (T : Txt K mg a) : FnOk P w K mg base (L2.CX P w) 4 a.f__law_fraction a.d__law_fraction ["_law_pen_here"] (spM (gt a) 1 m__law_fraction) :=
  ok_def T.t__law_fraction.fn sc__law_fraction rfl fun cdv A outer s H E hr => by
    have tk0 := takes_of (X := cxOf (L2.CX P w) P w K mg base ["_law_pen_here", "_law_top", "_law_bottom", "_law_times"] "_law_fraction" (defScope s__law_fraction) a.f__law_fraction cdv A outer s H E) (E := E) rfl rfl rfl rfl
    have po0 : PassesOwn (model P w) (cxOf (L2.CX P w) P w K mg base ["_law_pen_here", "_law_top", "_law_bottom", "_law_times"] "_law_fraction" (defScope s__law_fraction) a.f__law_fraction cdv A outer s H E).A (cxOf (L2.CX P w) P w K mg base ["_law_pen_here", "_law_top", "_law_bottom", "_law_times"] "_law_fraction" (defScope s__law_fraction) a.f__law_fraction cdv A outer s H E).env (cxOf (L2.CX P w) P w K mg base ["_law_pen_here", "_law_top", "_law_bottom", "_law_times"] "_law_fraction" (defScope s__law_fraction) a.f__law_fraction cdv A outer s H E).xe := passes_of rfl
    exact ⟨_, (dss_cons (ds_set (i := 1) sc__law_fraction.nd (x_call (ok__law_number T) (hr.mono (by decide)) tk0 T.t__law_number.m T.t__law_number.fn.kp T.t__law_number.b (a_cons (de_var 0) a_nil) (l_cons l_nil))) (dss_cons (ds_set (i := 2) sc__law_fraction.nd (x_call (ok__law_number T) (hr.mono (by decide)) tk0 T.t__law_number.m T.t__law_number.fn.kp T.t__law_number.b (a_cons (de_var 0) a_nil) (l_cons l_nil))) (dss_cons (z_if (q_cmp (op_eqA rfl hr.units) prim_eq (de_var 2) x_int) (dss_one (ds_set (i := 2) sc__law_fraction.nd (x_un un_neg prim_neg x_int))) z_nil) (dss_cons (ds_set (i := 3) sc__law_fraction.nd (x_call (ok__law_of T) (hr.mono (by decide)) tk0 T.t__law_of.m T.t__law_of.fn.kp T.t__law_of.b (a_cons (de_var 0) (a_cons (x_lst (a_cons x_int (a_cons x_int (a_cons x_int (a_cons (x_un un_neg prim_neg x_int) (a_cons (x_op op_pow prim_pow x_int x_int) a_nil)))))) a_nil)) (l_cons (l_cons l_nil)))) (dss_one (z_ret (x_tup (a_cons (x_op op_mulX prim_mul (de_var 1) (de_var 3)) (a_cons (x_op op_mulX prim_mul (de_var 2) (de_var 3)) a_nil)))))))))⟩
def b__law_sign : MS := (zRet (kOp subI (kCall intD (aCons (kOp gtI (mvar 0) (kC (.int 0))) aNil)) (kCall intD (aCons (kOp ltI (mvar 0) (kC (.int 0))) aNil))))
def m__law_sign : List D → M D := mdef 1 b__law_sign
theorem ok__law_sign (T : Txt K mg a) : FnOk P w K mg base (L2.CX P w) 1 a.f__law_sign a.d__law_sign ["_law_number_here"] (spM (gt a) 1 m__law_sign) :=
  ok_def T.t__law_sign.fn sc__law_sign rfl fun cdv A outer s H E hr => by
    have tk0 := takes_of (X := cxOf (L2.CX P w) P w K mg base ["_law_number_here"] "_law_sign" (defScope s__law_sign) a.f__law_sign cdv A outer s H E) (E := E) rfl rfl rfl rfl
    have po0 : PassesOwn (model P w) (cxOf (L2.CX P w) P w K mg base ["_law_number_here"] "_law_sign" (defScope s__law_sign) a.f__law_sign cdv A outer s H E).A (cxOf (L2.CX P w) P w K mg base ["_law_number_here"] "_law_sign" (defScope s__law_sign) a.f__law_sign cdv A outer s H E).env (cxOf (L2.CX P w) P w K mg base ["_law_number_here"] "_law_sign" (defScope s__law_sign) a.f__law_sign cdv A outer s H E).xe := passes_of rfl
    exact ⟨_, (dss_one (z_ret (x_op op_sub prim_sub (x_callTy call_int1 prim_int T.n_int (by decide +kernel) (a_cons (x_cmp op_gt prim_gt (de_var 0) x_int) a_nil)) (x_callTy call_int1 prim_int T.n_int (by decide +kernel) (a_cons (x_cmp op_lt prim_lt (de_var 0) x_int) a_nil)))))⟩
def b__law_two_0 : MS := (sasg (kCall m_ratio (aCons (kOp itemD (mvar 0) (kC (.int 0))) (aCons (kOp itemD (mvar 0) (kC (.int 1))) aNil))) (gnm 2))
def b__law_two_1 : MS := (sasg (kCall m_ratio (aCons (kOp itemD (mvar 1) (kC (.int 0))) (aCons (kOp itemD (mvar 1) (kC (.int 1))) aNil))) (gnm 3))
def b__law_two_2 : MS := (zIf (kOr (kNot (kB (kCall m__law_right (aCons (mvar 2) (aCons (kOp itemD (mvar 0) (kC (.int 0))) (aCons (kOp itemD (mvar 0) (kC (.int 1))) aNil)))))) (kNot (kB (kCall m__law_right (aCons (mvar 3) (aCons (kOp itemD (mvar 1) (kC (.int 0))) (aCons (kOp itemD (mvar 1) (kC (.int 1))) aNil))))))) (zRet (kC (.bl false))) zNx)
def b__law_two_3 : MS := (sasg (kOp mulI (kCall m__law_sign (aCons (kOp subI (kOp mulI (kOp itemD (mvar 0) (kC (.int 0))) (kOp itemD (mvar 1) (kC (.int 1)))) (kOp mulI (kOp itemD (mvar 1) (kC (.int 0))) (kOp itemD (mvar 0) (kC (.int 1))))) aNil)) (kCall m__law_sign (aCons (kOp mulI (kOp itemD (mvar 0) (kC (.int 1))) (kOp itemD (mvar 1) (kC (.int 1)))) aNil))) (gnm 4))
def b__law_two_4 : MS := (sasg (kCall m_compare_ratios (aCons (mvar 2) (aCons (mvar 3) aNil))) (gnm 5))
def b__law_two_5 : MS := (zIf (kOr (kNot (kB (kCall m__law_is_number (aCons (mvar 5) aNil)))) (kOr (kB (kOp neA (mvar 5) (mvar 4))) (kB (kOp neA (kCall m_compare_ratios (aCons (mvar 3) (aCons (mvar 2) aNil))) (kUn negI (mvar 4)))))) (zRet (kC (.bl false))) zNx)
def b__law_two_6 : MS := (zIf (kNot (kB (kCall m__law_right (aCons (kCall m_ratio_sum (aCons (mvar 2) (aCons (mvar 3) aNil))) (aCons (kOp addIL (kOp mulI (kOp itemD (mvar 0) (kC (.int 0))) (kOp itemD (mvar 1) (kC (.int 1)))) (kOp mulI (kOp itemD (mvar 1) (kC (.int 0))) (kOp itemD (mvar 0) (kC (.int 1))))) (aCons (kOp mulI (kOp itemD (mvar 0) (kC (.int 1))) (kOp itemD (mvar 1) (kC (.int 1)))) aNil)))))) (zRet (kC (.bl false))) zNx)
def b__law_two_7 : MS := (zRet (kCall m__law_right (aCons (kCall m_ratio_product (aCons (mvar 2) (aCons (mvar 3) aNil))) (aCons (kOp mulI (kOp itemD (mvar 0) (kC (.int 0))) (kOp itemD (mvar 1) (kC (.int 0)))) (aCons (kOp mulI (kOp itemD (mvar 0) (kC (.int 1))) (kOp itemD (mvar 1) (kC (.int 1)))) aNil)))))
def b__law_two : MS := (sseq b__law_two_0 (sseq b__law_two_1 (sseq b__law_two_2 (sseq b__law_two_3 (sseq b__law_two_4 (sseq b__law_two_5 (sseq b__law_two_6 b__law_two_7)))))))
def m__law_two : List D → M D := mdef 6 b__law_two
theorem ok__law_two (T : Txt K mg a) : FnOk P w K mg base (L2.CX P w) 5 a.f__law_two a.d__law_two ["_law_one", "_law_other"] (spM (gt a) 2 m__law_two) :=
  ok_def T.t__law_two.fn sc__law_two rfl fun cdv A outer s H E hr => by
    have tk0 := takes_of (X := cxOf (L2.CX P w) P w K mg base ["_law_one", "_law_other", "_law_first", "_law_second", "_law_due", "_law_told"] "_law_two" (defScope s__law_two) a.f__law_two cdv A outer s H E) (E := E) rfl rfl rfl rfl
    have po0 : PassesOwn (model P w) (cxOf (L2.CX P w) P w K mg base ["_law_one", "_law_other", "_law_first", "_law_second", "_law_due", "_law_told"] "_law_two" (defScope s__law_two) a.f__law_two cdv A outer s H E).A (cxOf (L2.CX P w) P w K mg base ["_law_one", "_law_other", "_law_first", "_law_second", "_law_due", "_law_told"] "_law_two" (defScope s__law_two) a.f__law_two cdv A outer s H E).env (cxOf (L2.CX P w) P w K mg base ["_law_one", "_law_other", "_law_first", "_law_second", "_law_due", "_law_told"] "_law_two" (defScope s__law_two) a.f__law_two cdv A outer s H E).xe := passes_of rfl
    exact ⟨_, (dss_cons (ds_set (i := 2) sc__law_two.nd (x_call (ok_ratio T) (hr.mono (by decide)) tk0 T.t_ratio.m T.t_ratio.fn.kp T.t_ratio.b (a_cons (x_ix rfl (de_var 0) x_int) (a_cons (x_ix rfl (de_var 0) x_int) a_nil)) (l_cons (l_cons l_nil)))) (dss_cons (ds_set (i := 3) sc__law_two.nd (x_call (ok_ratio T) (hr.mono (by decide)) tk0 T.t_ratio.m T.t_ratio.fn.kp T.t_ratio.b (a_cons (x_ix rfl (de_var 1) x_int) (a_cons (x_ix rfl (de_var 1) x_int) a_nil)) (l_cons (l_cons l_nil)))) (dss_cons (z_if (dt_w (w_or (q_not (q_val (x_call (ok__law_right T) (hr.mono (by decide)) tk0 T.t__law_right.m T.t__law_right.fn.kp T.t__law_right.b (a_cons (de_var 2) (a_cons (x_ix rfl (de_var 0) x_int) (a_cons (x_ix rfl (de_var 0) x_int) a_nil))) (l_cons (l_cons (l_cons l_nil)))))) (w_or1 (q_not (q_val (x_call (ok__law_right T) (hr.mono (by decide)) tk0 T.t__law_right.m T.t__law_right.fn.kp T.t__law_right.b (a_cons (de_var 3) (a_cons (x_ix rfl (de_var 1) x_int) (a_cons (x_ix rfl (de_var 1) x_int) a_nil))) (l_cons (l_cons (l_cons l_nil))))))))) (dss_one (z_ret x_bl)) z_nil) (dss_cons (ds_set (i := 4) sc__law_two.nd (x_op op_mulX prim_mul (x_call (ok__law_sign T) (hr.mono (by decide)) tk0 T.t__law_sign.m T.t__law_sign.fn.kp T.t__law_sign.b (a_cons (x_op op_sub prim_sub (x_op op_mulX prim_mul (x_ix rfl (de_var 0) x_int) (x_ix rfl (de_var 1) x_int)) (x_op op_mulX prim_mul (x_ix rfl (de_var 1) x_int) (x_ix rfl (de_var 0) x_int))) a_nil) (l_cons l_nil)) (x_call (ok__law_sign T) (hr.mono (by decide)) tk0 T.t__law_sign.m T.t__law_sign.fn.kp T.t__law_sign.b (a_cons (x_op op_mulX prim_mul (x_ix rfl (de_var 0) x_int) (x_ix rfl (de_var 1) x_int)) a_nil) (l_cons l_nil)))) (dss_cons (ds_set (i := 5) sc__law_two.nd (x_call (ok_compare_ratios T) (hr.mono (by decide)) tk0 T.t_compare_ratios.m T.t_compare_ratios.fn.kp T.t_compare_ratios.b (a_cons (de_var 2) (a_cons (de_var 3) a_nil)) (l_cons (l_cons l_nil)))) (dss_cons (z_if (dt_w (w_or (q_not (q_val (x_call (ok__law_is_number T) (hr.mono (by decide)) tk0 T.t__law_is_number.m T.t__law_is_number.fn.kp T.t__law_is_number.b (a_cons (de_var 5) a_nil) (l_cons l_nil)))) (w_or (q_cmp (op_neA rfl hr.units) prim_ne (de_var 5) (de_var 4)) (w_or1 (q_cmp (op_neA rfl hr.units) prim_ne (x_call (ok_compare_ratios T) (hr.mono (by decide)) tk0 T.t_compare_ratios.m T.t_compare_ratios.fn.kp T.t_compare_ratios.b (a_cons (de_var 3) (a_cons (de_var 2) a_nil)) (l_cons (l_cons l_nil))) (x_un un_neg prim_neg (de_var 4))))))) (dss_one (z_ret x_bl)) z_nil) (dss_cons (z_if (q_not (q_val (x_call (ok__law_right T) (hr.mono (by decide)) tk0 T.t__law_right.m T.t__law_right.fn.kp T.t__law_right.b (a_cons (x_call (ok_ratio_sum T) (hr.mono (by decide)) tk0 T.t_ratio_sum.m T.t_ratio_sum.fn.kp T.t_ratio_sum.b (a_cons (de_var 2) (a_cons (de_var 3) a_nil)) (l_cons (l_cons l_nil))) (a_cons (x_op (op_add.or op_cat) prim_addIL (x_op op_mulX prim_mul (x_ix rfl (de_var 0) x_int) (x_ix rfl (de_var 1) x_int)) (x_op op_mulX prim_mul (x_ix rfl (de_var 1) x_int) (x_ix rfl (de_var 0) x_int))) (a_cons (x_op op_mulX prim_mul (x_ix rfl (de_var 0) x_int) (x_ix rfl (de_var 1) x_int)) a_nil))) (l_cons (l_cons (l_cons l_nil)))))) (dss_one (z_ret x_bl)) z_nil) (dss_one (z_ret (x_call (ok__law_right T) (hr.mono (by decide)) tk0 T.t__law_right.m T.t__law_right.fn.kp T.t__law_right.b (a_cons (x_call (ok_ratio_product T) (hr.mono (by decide)) tk0 T.t_ratio_product.m T.t_ratio_product.fn.kp T.t_ratio_product.b (a_cons (de_var 2) (a_cons (de_var 3) a_nil)) (l_cons (l_cons l_nil))) (a_cons (x_op op_mulX prim_mul (x_ix rfl (de_var 0) x_int) (x_ix rfl (de_var 1) x_int)) (a_cons (x_op op_mulX prim_mul (x_ix rfl (de_var 0) x_int) (x_ix rfl (de_var 1) x_int)) a_nil))) (l_cons (l_cons (l_cons l_nil)))))))))))))⟩
def b__law_three_0 : MS := (zIf (kB (kOp neA (kCall m_ratio_sum (aCons (kCall m_ratio_sum (aCons (mvar 0) (aCons (mvar 1) aNil))) (aCons (mvar 2) aNil))) (kCall m_ratio_sum (aCons (mvar 0) (aCons (kCall m_ratio_sum (aCons (mvar 2) (aCons (mvar 1) aNil))) aNil))))) (zRet (kC (.bl false))) zNx)
def b__law_three_1 : MS := (zIf (kB (kOp neA (kCall m_ratio_product (aCons (kCall m_ratio_product (aCons (mvar 0) (aCons (mvar 1) aNil))) (aCons (mvar 2) aNil))) (kCall m_ratio_product (aCons (mvar 0) (aCons (kCall m_ratio_product (aCons (mvar 2) (aCons (mvar 1) aNil))) aNil))))) (zRet (kC (.bl false))) zNx)
def b__law_three_2 : MS := (zRet (kOp eqA (kCall m_ratio_product (aCons (mvar 0) (aCons (kCall m_ratio_sum (aCons (mvar 1) (aCons (mvar 2) aNil))) aNil))) (kCall m_ratio_sum (aCons (kCall m_ratio_product (aCons (mvar 0) (aCons (mvar 1) aNil))) (aCons (kCall m_ratio_product (aCons (mvar 2) (aCons (mvar 0) aNil))) aNil)))))
def b__law_three : MS := (sseq b__law_three_0 (sseq b__law_three_1 b__law_three_2))
def m__law_three : List D → M D := mdef 3 b__law_three
theorem ok__law_three (T : Txt K mg a) : FnOk P w K mg base (L2.CX P w) 5 a.f__law_three a.d__law_three ["_law_one", "_law_two_here", "_law_three_here"] (spM (gt a) 3 m__law_three) :=
  ok_def T.t__law_three.fn sc__law_three rfl fun cdv A outer s H E hr => by
    have tk0 := takes_of (X := cxOf (L2.CX P w) P w K mg base ["_law_one", "_law_two_here", "_law_three_here"] "_law_three" (defScope s__law_three) a.f__law_three cdv A outer s H E) (E := E) rfl rfl rfl rfl
    have po0 : PassesOwn (model P w) (cxOf (L2.CX P w) P w K mg base ["_law_one", "_law_two_here", "_law_three_here"] "_law_three" (defScope s__law_three) a.f__law_three cdv A outer s H E).A (cxOf (L2.CX P w) P w K mg base ["_law_one", "_law_two_here", "_law_three_here"] "_law_three" (defScope s__law_three) a.f__law_three cdv A outer s H E).env (cxOf (L2.CX P w) P w K mg base ["_law_one", "_law_two_here", "_law_three_here"] "_law_three" (defScope s__law_three) a.f__law_three cdv A outer s H E).xe := passes_of rfl
    exact ⟨_, (dss_cons (z_if (q_cmp (op_neA rfl hr.units) prim_ne (x_call (ok_ratio_sum T) (hr.mono (by decide)) tk0 T.t_ratio_sum.m T.t_ratio_sum.fn.kp T.t_ratio_sum.b (a_cons (x_call (ok_ratio_sum T) (hr.mono (by decide)) tk0 T.t_ratio_sum.m T.t_ratio_sum.fn.kp T.t_ratio_sum.b (a_cons (de_var 0) (a_cons (de_var 1) a_nil)) (l_cons (l_cons l_nil))) (a_cons (de_var 2) a_nil)) (l_cons (l_cons l_nil))) (x_call (ok_ratio_sum T) (hr.mono (by decide)) tk0 T.t_ratio_sum.m T.t_ratio_sum.fn.kp T.t_ratio_sum.b (a_cons (de_var 0) (a_cons (x_call (ok_ratio_sum T) (hr.mono (by decide)) tk0 T.t_ratio_sum.m T.t_ratio_sum.fn.kp T.t_ratio_sum.b (a_cons (de_var 2) (a_cons (de_var 1) a_nil)) (l_cons (l_cons l_nil))) a_nil)) (l_cons (l_cons l_nil)))) (dss_one (z_ret x_bl)) z_nil) (dss_cons (z_if (q_cmp (op_neA rfl hr.units) prim_ne (x_call (ok_ratio_product T) (hr.mono (by decide)) tk0 T.t_ratio_product.m T.t_ratio_product.fn.kp T.t_ratio_product.b (a_cons (x_call (ok_ratio_product T) (hr.mono (by decide)) tk0 T.t_ratio_product.m T.t_ratio_product.fn.kp T.t_ratio_product.b (a_cons (de_var 0) (a_cons (de_var 1) a_nil)) (l_cons (l_cons l_nil))) (a_cons (de_var 2) a_nil)) (l_cons (l_cons l_nil))) (x_call (ok_ratio_product T) (hr.mono (by decide)) tk0 T.t_ratio_product.m T.t_ratio_product.fn.kp T.t_ratio_product.b (a_cons (de_var 0) (a_cons (x_call (ok_ratio_product T) (hr.mono (by decide)) tk0 T.t_ratio_product.m T.t_ratio_product.fn.kp T.t_ratio_product.b (a_cons (de_var 2) (a_cons (de_var 1) a_nil)) (l_cons (l_cons l_nil))) a_nil)) (l_cons (l_cons l_nil)))) (dss_one (z_ret x_bl)) z_nil) (dss_one (z_ret (x_cmp (op_eqA rfl hr.units) prim_eq (x_call (ok_ratio_product T) (hr.mono (by decide)) tk0 T.t_ratio_product.m T.t_ratio_product.fn.kp T.t_ratio_product.b (a_cons (de_var 0) (a_cons (x_call (ok_ratio_sum T) (hr.mono (by decide)) tk0 T.t_ratio_sum.m T.t_ratio_sum.fn.kp T.t_ratio_sum.b (a_cons (de_var 1) (a_cons (de_var 2) a_nil)) (l_cons (l_cons l_nil))) a_nil)) (l_cons (l_cons l_nil))) (x_call (ok_ratio_sum T) (hr.mono (by decide)) tk0 T.t_ratio_sum.m T.t_ratio_sum.fn.kp T.t_ratio_sum.b (a_cons (x_call (ok_ratio_product T) (hr.mono (by decide)) tk0 T.t_ratio_product.m T.t_ratio_product.fn.kp T.t_ratio_product.b (a_cons (de_var 0) (a_cons (de_var 1) a_nil)) (l_cons (l_cons l_nil))) (a_cons (x_call (ok_ratio_product T) (hr.mono (by decide)) tk0 T.t_ratio_product.m T.t_ratio_product.fn.kp T.t_ratio_product.b (a_cons (de_var 2) (a_cons (de_var 0) a_nil)) (l_cons (l_cons l_nil))) a_nil)) (l_cons (l_cons l_nil))))))))⟩
def lb__law_wholes_0 : MS := (sseq (sasg (kAndV (kCall m__law_is_number (aCons (mvar 4) aNil)) (kCh leI leI (mvar 1) (mvar 4) (mvar 2))) (gnm 5)) (sseq (sasg (kCall m_is_whole (aCons (mvar 4) (aCons (mvar 1) (aCons (mvar 2) aNil)))) (gnm 6)) (zIf (kB (kOp neA (mvar 5) (kOp isBo (mvar 6) (kC (.bl true))))) (zRet (kC (.bl false))) zNx)))
def b__law_wholes_0 : MS := (sasg (kCall m__law_number (aCons (mvar 0) aNil)) (gnm 1))
def b__law_wholes_1 : MS := (sasg (kOp addIL (mvar 1) (kCall m__law_of (aCons (mvar 0) (aCons (kCall lstD (aCons (kC (.int 0)) (aCons (kC (.int 0)) (aCons (kC (.int 1)) (aCons (kC (.int 2)) (aCons (kC (.int 30)) (aCons (kOp powI (kC (.int 10)) (kC (.int 30))) (aCons (kUn negI (kC (.int 1))) aNil)))))))) aNil)))) (gnm 2))
def b__law_wholes_2 : MS := (sasg (kCall lstD (aCons (mvar 1) (aCons (kOp subI (mvar 1) (kC (.int 1))) (aCons (kOp addIL (mvar 1) (kC (.int 1))) (aCons (mvar 2) (aCons (kOp addIL (mvar 2) (kC (.int 1))) (aCons (kOp subI (mvar 2) (kC (.int 1))) (aCons (kCall m__law_number (aCons (mvar 0) aNil)) (aCons (kC (.int 0)) aNil))))))))) (gnm 3))
def b__law_wholes_3 : MS := (sasg (kOp addIL (mvar 3) (kCall lstD (aCons (kC (.bl true)) (aCons (kC (.bl false)) (aCons (kC .non) (aCons (kCall strD (aCons (mvar 1) aNil)) (aCons (kCall tupD (aCons (mvar 1) aNil)) (aCons (kCall lstD (aCons (mvar 2) aNil)) aNil)))))))) (gnm 3))
def b__law_wholes_4 : MS := (sfor (iL (mvar 3)) (gnm 4) lb__law_wholes_0)
def b__law_wholes_5 : MS := (zRet (kC (.bl true)))
def b__law_wholes : MS := (sseq b__law_wholes_0 (sseq b__law_wholes_1 (sseq b__law_wholes_2 (sseq b__law_wholes_3 (sseq b__law_wholes_4 b__law_wholes_5)))))
def m__law_wholes : List D → M D := mdef 7 b__law_wholes
theorem ok__law_wholes (T : Txt K mg a) : FnOk P w K mg base (L2.CX P w) 4 a.f__law_wholes a.d__law_wholes ["_law_pen_here"] (spM (gt a) 1 m__law_wholes) :=
  ok_def T.t__law_wholes.fn sc__law_wholes rfl fun cdv A outer s H E hr => by
    have tk0 := takes_of (X := cxOf (L2.CX P w) P w K mg base ["_law_pen_here", "_law_low", "_law_high", "_law_things", "_law_thing", "_law_due", "_law_told"] "_law_wholes" (defScope s__law_wholes) a.f__law_wholes cdv A outer s H E) (E := E) rfl rfl rfl rfl
    have po0 : PassesOwn (model P w) (cxOf (L2.CX P w) P w K mg base ["_law_pen_here", "_law_low", "_law_high", "_law_things", "_law_thing", "_law_due", "_law_told"] "_law_wholes" (defScope s__law_wholes) a.f__law_wholes cdv A outer s H E).A (cxOf (L2.CX P w) P w K mg base ["_law_pen_here", "_law_low", "_law_high", "_law_things", "_law_thing", "_law_due", "_law_told"] "_law_wholes" (defScope s__law_wholes) a.f__law_wholes cdv A outer s H E).env (cxOf (L2.CX P w) P w K mg base ["_law_pen_here", "_law_low", "_law_high", "_law_things", "_law_thing", "_law_due", "_law_told"] "_law_wholes" (defScope s__law_wholes) a.f__law_wholes cdv A outer s H E).xe := passes_of rfl
    exact ⟨_, (dss_cons (ds_set (i := 1) sc__law_wholes.nd (x_call (ok__law_number T) (hr.mono (by decide)) tk0 T.t__law_number.m T.t__law_number.fn.kp T.t__law_number.b (a_cons (de_var 0) a_nil) (l_cons l_nil))) (dss_cons (ds_set (i := 2) sc__law_wholes.nd (x_op (op_add.or op_cat) prim_addIL (de_var 1) (x_call (ok__law_of T) (hr.mono (by decide)) tk0 T.t__law_of.m T.t__law_of.fn.kp T.t__law_of.b (a_cons (de_var 0) (a_cons (x_lst (a_cons x_int (a_cons x_int (a_cons x_int (a_cons x_int (a_cons x_int (a_cons (x_op op_pow prim_pow x_int x_int) (a_cons (x_un un_neg prim_neg x_int) a_nil)))))))) a_nil)) (l_cons (l_cons l_nil))))) (dss_cons (ds_set (i := 3) sc__law_wholes.nd (x_lst (a_cons (de_var 1) (a_cons (x_op op_sub prim_sub (de_var 1) x_int) (a_cons (x_op (op_add.or op_cat) prim_addIL (de_var 1) x_int) (a_cons (de_var 2) (a_cons (x_op (op_add.or op_cat) prim_addIL (de_var 2) x_int) (a_cons (x_op op_sub prim_sub (de_var 2) x_int) (a_cons (x_call (ok__law_number T) (hr.mono (by decide)) tk0 T.t__law_number.m T.t__law_number.fn.kp T.t__law_number.b (a_cons (de_var 0) a_nil) (l_cons l_nil)) (a_cons x_int a_nil)))))))))) (dss_cons (ds_set (i := 3) sc__law_wholes.nd (x_op (op_add.or op_cat) prim_addIL (de_var 3) (x_lst (a_cons x_bl (a_cons x_bl (a_cons x_non (a_cons (x_callTy call_str_int prim_str T.n_str (by decide +kernel) (a_cons (de_var 1) a_nil)) (a_cons (x_tup (a_cons (de_var 1) a_nil)) (a_cons (x_lst (a_cons (de_var 2) a_nil)) a_nil))))))))) (dss_cons (ds_for (vs := [4]) po0 rfl (i_list rfl (de_var 3)) (dg_name (i := 4) (by decide) sc__law_wholes.nd) (dss_cons (ds_set (i := 5) sc__law_wholes.nd (x_and (x_call (ok__law_is_number T) (hr.mono (by decide)) tk0 T.t__law_is_number.m T.t__law_is_number.fn.kp T.t__law_is_number.b (a_cons (de_var 4) a_nil) (l_cons l_nil)) (de_one (x_chain op_le op_le prim_le prim_le (de_var 1) (de_var 4) (de_var 2))))) (dss_cons (ds_set (i := 6) sc__law_wholes.nd (x_call (ok_is_whole T) (hr.mono (by decide)) tk0 T.t_is_whole.m T.t_is_whole.fn.kp T.t_is_whole.b (a_cons (de_var 4) (a_cons (de_var 1) (a_cons (de_var 2) a_nil))) (l_cons (l_cons (l_cons l_nil))))) (dss_one (z_if (q_cmp (op_neA rfl hr.units) prim_ne (de_var 5) (x_cmp op_isBl prim_isBo (de_var 6) x_bl)) (dss_one (z_ret x_bl)) z_nil))))) (dss_one (z_ret x_bl)))))))⟩
def mt_BadRatio : Nat → Option Bool := fun c => match c with
  | 1 => some true
  | _ => none
def mt_BridgeError : Nat → Option Bool := fun c => match c with
  | 1 => some true
  | _ => none
def ans_BadRatio : Nat → Option Bool := fun c => match c with
  | 1 => some true
  | _ => none
theorem mt1 {c : Nat} (h : mt_BridgeError c = some true) : c = 1 := by
  unfold mt_BridgeError at h
  split at h
  · rfl
  · cases h
theorem hmt_BadRatio (T : Txt K mg a) : ∀ c b, mt_BadRatio c = some b → PySem.W.exmOne K (.ref ((gt a).cls c)) (.ref ((gt a).cls 1)) = some b := by
  intro c b h
  unfold mt_BadRatio at h
  split at h
  · cases h; exact T.x_rr
  · cases h
theorem hmt_BridgeError (T : Txt K mg a) : ∀ c b, mt_BridgeError c = some b → PySem.W.exmOne K (.ref ((gt a).cls c)) (.ref ((gt a).cls 0)) = some b := by
  intro c b h
  unfold mt_BridgeError at h
  split at h
  · cases h; exact T.x_rb
  · cases h
def b__law_refused : MS := (sseq (sasg (kC (.int 0)) (gnm 1)) (sseq (oT mt_BadRatio (zEx (kCall m_ratio (aCons (mvar 0) (aCons (kC (.int 0)) aNil)))) (sasg (kOp addIL (mvar 1) (kC (.int 1))) (gnm 1))) (sseq (oA 2 mt_BridgeError (fun _ => true) (zEx (kCall m_ratio (aCons (kC (.int 0)) (aCons (kC (.int 0)) aNil)))) (fun _ => (sasg (kOp addIL (mvar 1) (kOp mulI (kC (.int 2)) (kCall intD (aCons (kUn (isiE ans_BadRatio) (mvar 2)) aNil)))) (gnm 1)))) (zRet (kOp eqA (mvar 1) (kC (.int 3)))))))
def m__law_refused : List D → M D := mdef 3 b__law_refused
theorem ok__law_refused (T : Txt K mg a) : FnOk P w K mg base (L2.CX P w) 4 a.f__law_refused a.d__law_refused ["_law_top"] (spM (gt a) 1 m__law_refused) :=
  ok_def T.t__law_refused.fn sc__law_refused rfl fun cdv A outer s H E hr => by
    have tk0 := takes_of (X := cxOf (L2.CX P w) P w K mg base ["_law_top", "_law_caught", "e"] "_law_refused" (defScope s__law_refused) a.f__law_refused cdv A outer s H E) (E := E) rfl rfl rfl rfl
    have po0 : PassesOwn (model P w) (cxOf (L2.CX P w) P w K mg base ["_law_top", "_law_caught", "e"] "_law_refused" (defScope s__law_refused) a.f__law_refused cdv A outer s H E).A (cxOf (L2.CX P w) P w K mg base ["_law_top", "_law_caught", "e"] "_law_refused" (defScope s__law_refused) a.f__law_refused cdv A outer s H E).env (cxOf (L2.CX P w) P w K mg base ["_law_top", "_law_caught", "e"] "_law_refused" (defScope s__law_refused) a.f__law_refused cdv A outer s H E).xe := passes_of rfl
    exact ⟨_, (dss_cons (ds_set (i := 1) sc__law_refused.nd x_int) (dss_cons (ds_try_only (mt := mt_BadRatio) (hm := fun _ _ _ => (sasg (kOp addIL (mvar 1) (kC (.int 1))) (gnm 1))) rfl rfl ⟨by exact rfl, by decide, .inl T.m_BadRatio⟩ tk0 (hmt_BadRatio T) (fun W' pn xe tk' po' => ⟨_, (dss_one (z_expr (x_call (ok_ratio T) (hr.mono (by decide)) tk' T.t_ratio.m T.t_ratio.fn.kp T.t_ratio.b (a_cons (de_var 0) (a_cons x_int a_nil)) (l_cons (l_cons l_nil)))))⟩) (fun _ _ _ _ _ _ _ _ _ _ => ⟨_, (dss_one (ds_set (i := 1) sc__law_refused.nd (x_op (op_add.or op_cat) prim_addIL (de_var 1) x_int)))⟩)).choose_spec (dss_cons (ds_try_as (i := 2) (mt := mt_BridgeError) (nf := fun _ => true) (hs1 := fun _ => (sasg (kOp addIL (mvar 1) (kOp mulI (kC (.int 2)) (kCall intD (aCons (kUn (isiE ans_BadRatio) (mvar 2)) aNil)))) (gnm 1))) rfl rfl rfl sc__law_refused.nd rfl rfl ⟨by exact rfl, by decide, .inl T.m_BridgeError⟩ tk0 (hmt_BridgeError T) (fun W' pn xe tk' po' => ⟨_, (dss_one (z_expr (x_call (ok_ratio T) (hr.mono (by decide)) tk' T.t_ratio.m T.t_ratio.fn.kp T.t_ratio.b (a_cons x_int (a_cons x_int a_nil)) (l_cons (l_cons l_nil)))))⟩) (fun a1 oe1 c1 dd1 pn1 hm hd hz hf => by
      obtain rfl : dd1 = none := hd rfl
      obtain rfl : c1 = 1 := mt1 hm
      exact ⟨_, (dss_one (ds_set (i := 1) sc__law_refused.nd (x_op (op_add.or op_cat) prim_addIL (de_var 1) (x_op op_mulX prim_mul x_int (x_callTy call_int1 prim_int T.n_int (by decide +kernel) (a_cons (de_isE (a := a1) (oe := oe1) (pn := pn1) (G := gt a) (c := 1) (T' := 1) (ans := ans_BadRatio) (i := 2) T.x_ec hz hf (fun b hb => by cases hb; exact T.x_ki) rfl T.n_isinstance rfl T.m_BadRatio (de_var 2)) a_nil))))))⟩)).choose_spec (dss_one (z_ret (x_cmp (op_eqA rfl hr.units) prim_eq (de_var 1) x_int))))))⟩
theorem ok__law_pen (T : Txt K mg a) : FnOk P w K mg base (L2.CX P w) 1 a.f__law_pen a.d__law_pen ["_law_script"] (spPen K) := by
  refine T.t__law_pen.fn.okX sc__law_pen (fun vs H Q E h => by obtain ⟨_, _, rfl, _⟩ := h; rfl) fun cdv A outer s H vs Q E hr h => ?_
  obtain ⟨l, ns, rfl, hl, k⟩ := h
  refine ⟨_, pss_cons (ps_set (i := 1) sc__law_pen.nd rfl (.inl rfl) pe_int)
    (pss_cons (ps_for (passes_of rfl) rfl (pi_list (pv 0)) (pg_name (i := 2) sc__law_pen.nd rfl (.inl rfl)) (pss_one (ps_set (i := 1) sc__law_pen.nd rfl (.inl rfl)
      (pe_op op_mod (pe_callTy call_int1 (by rfl) T.n_int (by decide +kernel) (pa_cons (pe_op op_add (pe_op op_add (pe_op op_mul (pv 1) pe_int) (pe_op op_mod (pe_callTy call_int1 (by rfl) T.n_int (by decide +kernel) (pa_cons (pv 2) pa_nil)) pe_int)) pe_int) pa_nil)) pe_int))))
    (pss_one (ps_ret (pe_disp (pps_cons pe_str (pe_callTy call_list_of (by rfl) T.n_list (by decide +kernel) (pa_cons (pv 0) pa_nil)) (pps_cons pe_str pe_int (pps_cons pe_str pe_int (pps_cons pe_str pe_int (pps_cons pe_str (pv 1) (pps_cons pe_str pe_int pps_nil)))))) (by rfl) (by rfl) (fun z => by cases z) (by decide))))), ?_⟩
  refine ⟨_, rfl, l, rfl, ⟨_, hl⟩, for_list (xs := ns.map V.int) (fun i σ H2 => ∃ seed v, σ = [some (.ref l), some (.int seed), v] ∧ Same H H2) ⟨31, none, rfl, Same.refl H⟩ (fun i σ H2 _ ⟨_, _, _, hs⟩ => hs.seq hl) ?_ ?_⟩
  · rintro i x σ H2 hx ⟨seed, v, rfl, hs⟩
    rw [List.getElem?_map] at hx
    cases q : ns[i]? with
    | none => rw [q] at hx; cases hx
    | some n =>
      rw [q] at hx
      cases hx
      refine ⟨_, rfl, _, _, rfl, rfl, .inr ⟨by decide, by decide⟩, _, rfl, .inl ⟨_, rfl, _, _, rfl, rfl, (by decide : (0 : Int) < 2147483543), _, _, rfl, rfl, _, _, rfl, rfl, .inl ⟨_, rfl, _, _, rfl, rfl, (by decide : (0 : Int) < 2147483563), ?_⟩⟩⟩
      exact ⟨_, _, rfl, hs⟩
  · rintro σ H2 ⟨seed, v, rfl, hs⟩
    intro p hp
    refine ⟨_, rfl, l, _, rfl, .inl ((hs.trans (fun b o e => by rw [upd_ne (ne_of_none e hp)]; exact e)).seq hl), fun c hc => ?_⟩
    have hcp : p ≠ c := fun z => by subst z; rw [upd_same] at hc; cases hc
    have hc0 : H2 c = none := by rw [upd_ne (Ne.symm hcp)] at hc; exact hc
    refine ⟨_, rfl, by rw [upd_ne hcp, upd_same], [(Sum.inr "cells", .ref c), (Sum.inr "next", .int 0), (Sum.inr "digits", .int 0), (Sum.inr "rest", .int 0), (Sum.inr "seed", .int seed), (Sum.inr "turn", .int 0)], rfl, by show 6 ≤ 15; decide, ?_⟩
    refine k seed _ p c (fun b o e => ?_) (hs.free hp) (hs.free hc0) ?_ ?_
    · have e2 := hs b o e
      rw [upd_ne (ne_of_none e2 hp), upd_ne (ne_of_none e2 hc0), upd_ne (ne_of_none e2 hp)]
      exact e2
    · rw [upd_same]; rfl
    · rw [upd_ne (Ne.symm hcp), upd_same]
def lb_law_0 : MS := (zIf (kNot (kB (kCall m__law_two (aCons (mvar 3) (aCons (mvar 4) aNil))))) (zRet (kC (.bl false))) zNx)
def lb_law_1 : MS := (sfor (iL (mvar 2)) (gnm 4) lb_law_0)
def b_law_0 : MS := (sasg (kLc (iR1 (aCons (kC (.int 3)) aNil)) (gnm 7) (fun _ => mret true) (kCall m__law_fraction (aCons (mvar 1) aNil)) [7]) (gnm 2))
def b_law_1 : MS := (sfor (iL (mvar 2)) (gnm 3) lb_law_1)
def b_law_2 : MS := (sasg (kLc (iL (mvar 2)) (gnm 8) (fun _ => mret true) (kCall m_ratio (aCons (kOp itemD (mvar 8) (kC (.int 0))) (aCons (kOp itemD (mvar 8) (kC (.int 1))) aNil))) [8]) (glm 3 (gcn (gnm 3) (gcn (gnm 5) (gcn (gnm 6) gnl)))))
def b_law_3 : MS := (zRet (kAndV (kCall m__law_three (aCons (mvar 3) (aCons (mvar 5) (aCons (mvar 6) aNil)))) (kAndV (kCall m__law_refused (aCons (kOp itemD (kOp itemD (mvar 2) (kC (.int 0))) (kC (.int 0))) aNil)) (kCall m__law_wholes (aCons (mvar 1) aNil)))))

def b_law : MS := (sseq b_law_0 (sseq b_law_1 (sseq b_law_2 b_law_3)))
def ρ0 : Tw.Loc := [none, some .pen, none, none, none, none, none, none, none]
def spLaw (K : PySem.W.Frag) : Sp := fun vs H Q _ => ∃ (l : Addr) (ns : List Int), vs = [.ref l] ∧ SqL K H l (ns.map V.int) ∧ ns.length ≤ 63 ∧ ∀ H', Q (.bl true) H'
theorem ok_law (good : ∀ s, ∃ s', b_law ρ0 s = .ret (.bl true) s') (T : Txt K mg a) : FnOk P w K mg base (L2.CX P w) 6 a.f_law a.d_law ["_law_script"] (spLaw K) := by
  refine T.t_law.fn.okX sc_law (fun vs H Q E h => by obtain ⟨_, _, rfl, _⟩ := h; rfl) fun cdv A outer s H vs Q E hr h => ?_
  obtain ⟨l, ns, rfl, hl, _, k⟩ := h
  have tk0 := takes_of (X := cxOf (L2.CX P w) P w K mg base ["_law_script", "_law_pen_here", "_law_rows", "_law_one", "_law_other", "_law_two_here", "_law_three_here", "_law_k", "_law_row"] "law" (defScope s_law) a.f_law cdv A outer s H E) (E := E) rfl rfl rfl rfl
  have po0 : PassesOwn (model P w) (cxOf (L2.CX P w) P w K mg base ["_law_script", "_law_pen_here", "_law_rows", "_law_one", "_law_other", "_law_two_here", "_law_three_here", "_law_k", "_law_row"] "law" (defScope s_law) a.f_law cdv A outer s H E).A (cxOf (L2.CX P w) P w K mg base ["_law_script", "_law_pen_here", "_law_rows", "_law_one", "_law_other", "_law_two_here", "_law_three_here", "_law_k", "_law_row"] "law" (defScope s_law) a.f_law cdv A outer s H E).env (cxOf (L2.CX P w) P w K mg base ["_law_script", "_law_pen_here", "_law_rows", "_law_one", "_law_other", "_law_two_here", "_law_three_here", "_law_k", "_law_row"] "law" (defScope s_law) a.f_law cdv A outer s H E).xe := passes_of rfl
  have rest : ∃ t, DSs (gt a) (cxOf (L2.CX P w) P w K mg base ["_law_script", "_law_pen_here", "_law_rows", "_law_one", "_law_other", "_law_two_here", "_law_three_here", "_law_k", "_law_row"] "law" (defScope s_law) a.f_law cdv A outer s H E) (fun c d _ H' => E c d H') ((defBody s_law).drop 1) t b_law := ⟨_, (dss_cons (z_setLc (i := 2) [("_law_k", 7)] rfl sc_law.nd rfl rfl (sw_true rfl rfl rfl (by decide +kernel)) (i_range1 T.n_range (a_cons x_int a_nil)) (blkOk_by (N := ["_law_script", "_law_pen_here", "_law_rows", "_law_one", "_law_other", "_law_two_here", "_law_three_here", "_law_k", "_law_row"]) (sc := defScope s_law) (by decide +kernel)) (fun _ _ _ _ _ => (dg_name (i := 7) (by decide) sc_law.nd)) (fun _ _ _ _ _ => pts_nil) run_yes (fun _ _ _ _ _ => (x_call (ok__law_fraction T) (hr.mono (by decide)) takes0 T.t__law_fraction.m T.t__law_fraction.fn.kp T.t__law_fraction.b (a_cons (de_var 1) a_nil) (l_cons l_nil)))) (dss_cons (ds_for (vs := [3]) po0 rfl (i_list rfl (de_var 2)) (dg_name (i := 3) (by decide) sc_law.nd) (dss_one (ds_for (vs := [4]) po0 rfl (i_list rfl (de_var 2)) (dg_name (i := 4) (by decide) sc_law.nd) (dss_one (z_if (q_not (q_val (x_call (ok__law_two T) (hr.mono (by decide)) tk0 T.t__law_two.m T.t__law_two.fn.kp T.t__law_two.b (a_cons (de_var 3) (a_cons (de_var 4) a_nil)) (l_cons (l_cons l_nil))))) (dss_one (z_ret x_bl)) z_nil))))) (dss_cons (ds_asg (vs := [3, 5, 6]) (x_lc [("_law_row", 8)] rfl sc_law.nd (i_list rfl (de_var 2)) (blkOk_by (N := ["_law_script", "_law_pen_here", "_law_rows", "_law_one", "_law_other", "_law_two_here", "_law_three_here", "_law_k", "_law_row"]) (sc := defScope s_law) (by decide +kernel)) (fun _ _ _ _ _ => (dg_name (i := 8) (by decide) sc_law.nd)) (fun _ _ _ _ _ => pts_nil) run_yes (fun _ _ _ _ _ => (x_call (ok_ratio T) (hr.mono (by decide)) takes0 T.t_ratio.m T.t_ratio.fn.kp T.t_ratio.b (a_cons (x_ix rfl (de_var 8) x_int) (a_cons (x_ix rfl (de_var 8) x_int) a_nil)) (l_cons (l_cons l_nil))))) (g_lst rfl rfl (g_cons (dg_name (i := 3) (by decide) sc_law.nd) (g_cons (dg_name (i := 5) (by decide) sc_law.nd) (g_cons (dg_name (i := 6) (by decide) sc_law.nd) g_nil))))) (dss_one (z_ret (x_and (x_call (ok__law_three T) (hr.mono (by decide)) tk0 T.t__law_three.m T.t__law_three.fn.kp T.t__law_three.b (a_cons (de_var 3) (a_cons (de_var 5) (a_cons (de_var 6) a_nil))) (l_cons (l_cons (l_cons l_nil)))) (x_and (x_call (ok__law_refused T) (hr.mono (by decide)) tk0 T.t__law_refused.m T.t__law_refused.fn.kp T.t__law_refused.b (a_cons (x_ix rfl (x_ix rfl (de_var 2) x_int) x_int) a_nil) (l_cons l_nil)) (de_one (x_call (ok__law_wholes T) (hr.mono (by decide)) tk0 T.t__law_wholes.m T.t__law_wholes.fn.kp T.t__law_wholes.b (a_cons (de_var 1) a_nil) (l_cons l_nil))))))))))⟩
  obtain ⟨t, dt⟩ := rest
  refine ⟨_, pss_cons (ps_set (i := 1) sc_law.nd rfl (.inr rfl) (pe_callS (ok__law_pen T) (hr.mono (by decide)) (by rfl) T.t__law_pen.m T.t__law_pen.fn.kp T.t__law_pen.b (fun σ => passAt tk0 σ) (pa_cons (pv 0) pa_nil))) dt.ps, ?_⟩
  refine ⟨_, rfl, l, ns, rfl, hl, fun seed H' p c sm hp hc h1 h2 => ?_⟩
  obtain ⟨s', e'⟩ := good (pen0 ns seed)
  have hpc : c ≠ p := ne_of h2 h1 (fun z => nomatch z)
  refine dt.run ⟨some p, fun _ => False⟩ _ H' ρ0 (pen0 ns seed) _ ⟨rfl, fun i d q => ?_⟩ ⟨fun b eb => ?_, fun b hb => hb.elim⟩ ?_
  · match i, q with
    | 1, q => cases q; exact ⟨.ref p, rfl, p, rfl, rfl⟩
    | 0, q => cases q
    | 2, q => cases q
    | 3, q => cases q
    | 4, q => cases q
    | 5, q => cases q
    | 6, q => cases q
    | 7, q => cases q
    | 8, q => cases q
    | n + 9, q => cases q
  · cases eb; exact ⟨c, fun z => z, h1, h2⟩
  · rw [e']
    intro v H2 _ _ rd
    obtain rfl : v = .bl true := rd
    exact k H2

end
end K01

set_option Elab.async false
set_option linter.all false
set_option maxRecDepth 100000
set_option maxHeartbeats 4000000
set_option autoImplicit false
namespace K01
open PySem L2 Tw
local macro_rules | `(tactic| walk_at "tw") => `(tactic| simp only [mdef, startL, sseq, zNx, zIf, zRet, zRetN, zEx, zBk, zCt, zRaise, sasg, spar, sof_ret, sof_ok, mret_ap, mbind_ap, obind_ok, mbind_ret, mbind_bad, kC, kOp, kUn, kB, kAnd, kOr, kNot, kAndV, kOrV, kNotV, kIf, kCh, aNil, aCons, kCall, iL, iT, iR1, iR2, mvar, gnm, asB, asL, asT, int2, int2c, addIL, addI, subI, mul_eq, fdv_eq, fdv_64, fmd_eq, ne_eq, not_false_eq_true, Int.reduceEq, Nat.reduceLeDiff, Int.reduceAdd, Int.reduceNeg, p9, p15, p18, p20, p30, negI, ltI, leI, gtI, geI, eqA, neA, isBo, isNo, tupD, lstD, itemD, gcdD, intD, absD, lenD, penGet, penPut, Pen.get, Pen.put,
  ii_int, ii_bool, ib_int, ib_bool, in_int, is_int, it_int, il_int, it_tuple,
  List.map_cons, List.map_nil, List.length_cons, List.length_nil, List.cons_append, List.nil_append, List.getElem?_cons_zero, List.getElem?_cons_succ, List.set_cons_zero, List.set_cons_succ, List.replicate_succ, List.replicate_zero, Nat.reduceSub, Nat.reduceAdd, if_true, if_false, decide_eq_true_eq, Bool.not_eq_true', Bool.true_eq_false, Bool.false_eq_true, reduceIte, decide_true, decide_false, Bool.not_true, Bool.not_false, ite_true, ite_false, List.length_map, *])
theorem take0 (many : Int) (x2 x3 : Option D) (s : Pen) : b__law_take_0 [some .pen, some (.int many), x2, x3] s = .nx [some .pen, some (.int many), x2, x3] { s with turn := s.turn + 1 } := by
  unfold b__law_take_0
  walk_at "tw"
theorem take1 (many : Int) (x2 x3 : Option D) (s : Pen) : ∃ y s', b__law_take_1 [some .pen, some (.int many), x2, x3] s = .nx [some .pen, some (.int many), y, x3] s' := by
  unfold b__law_take_1
  by_cases h1 : s.digits = 0
  · by_cases h2 : ((s.next : Nat) : Int) < (s.cells.length : Nat)
    · obtain ⟨n, hn⟩ := atI_int (show s.next < s.cells.length by omega)
      have hm : mulOk s.seed 39373 = true := mulOk_r (by decide)
      have h0 : (0 : Int) ≤ (s.next : Nat) + 1 := by omega
      have h5 : ((2147483423 : Int) ≠ 0) := by decide
      have h6 : ((2147483489 : Int) ≠ 0) := by decide
      by_cases h3 : 1000000000000000000 ≤ n
      · walk_at "tw"
        exact ⟨_, _, rfl⟩
      · walk_at "tw"
        exact ⟨_, _, rfl⟩
    · walk_at "tw"
      exact ⟨_, _, rfl⟩
  · walk_at "tw"
    exact ⟨_, _, rfl⟩
theorem take2 (many : Int) (x2 x3 : Option D) (s : Pen) (h : 0 < many) (h9 : many.natAbs.log2 < 9000) : (b__law_take_2 [some .pen, some (.int many), x2, x3] s = .nx [some .pen, some (.int many), x2, x3] s) ∨
    ∃ d s', b__law_take_2 [some .pen, some (.int many), x2, x3] s = .ret (.int d) s' ∧ 0 ≤ d ∧ d < many := by
  unfold b__law_take_2
  by_cases h1 : 0 < s.digits
  · have h2 : many ≠ 0 := by omega
    refine .inr ⟨s.rest.fmod many, { s with digits := s.digits - 1, rest := s.rest.fdiv many }, ?_, Int.fmod_nonneg_of_pos _ h, Int.fmod_lt_of_pos _ h⟩
    walk_at "tw"
  · exact .inl (by walk_at "tw")
theorem take3 (many : Int) (x2 x3 : Option D) (s : Pen) : ∃ s', b__law_take_3 [some .pen, some (.int many), x2, x3] s = .nx [some .pen, some (.int many), x2, x3] s' := by
  unfold b__law_take_3
  have h1 : mulOk s.seed 48271 = true := mulOk_r (by decide)
  have h2 : mulOk 13 s.turn = true := mulOk_l (by decide)
  have h3 : (2147483647 : Int) ≠ 0 := by decide
  walk_at "tw"
  exact ⟨_, rfl⟩
theorem take4 (many : Int) (x2 x3 : Option D) (s : Pen) (h : 0 < many) : ∃ d s', b__law_take_4 [some .pen, some (.int many), x2, x3] s = .ret (.int d) s' ∧ 0 ≤ d ∧ d < many := by
  unfold b__law_take_4
  have h1 : mulOk s.seed 16807 = true := mulOk_r (by decide)
  have h2 : many ≠ 0 := by omega
  have h3 : (2147483629 : Int) ≠ 0 := by decide
  have h4 : (64 : Int) ≠ 0 ∧ (64 : Int).natAbs.log2 < 9000 := by decide
  refine ⟨_, s, ?_, Int.fmod_nonneg_of_pos (((s.seed * 16807).fmod 2147483629).fdiv 64) h, Int.fmod_lt_of_pos _ h⟩
  walk_at "tw"
theorem take_ok (s : Pen) (many : Int) (h : 0 < many) (h9 : many.natAbs.log2 < 9000) : ∃ d s', m__law_take [.pen, .int many] s = .ok (.int d) s' ∧ 0 ≤ d ∧ d < many := by
  obtain ⟨y, s1, e1⟩ := take1 many none none { s with turn := s.turn + 1 }
  have e : b__law_take (startL 4 [.pen, .int many]) s = sseq b__law_take_2 (sseq b__law_take_3 b__law_take_4) [some .pen, some (.int many), y, none] s1 := by
    show sseq b__law_take_0 (sseq b__law_take_1 _) [some .pen, some (.int many), none, none] s = _
    rw [sseq_nx (take0 many none none s), sseq_nx e1]
  rcases take2 many y none s1 h h9 with e2 | ⟨d, s2, e2, hd⟩
  · obtain ⟨s3, e3⟩ := take3 many y none s1
    obtain ⟨d, s4, e4, hd⟩ := take4 many y none s3 h
    rw [sseq_nx e2, sseq_nx e3, e4] at e
    exact ⟨d, s4, mdef_ret e, hd⟩
  · rw [sseq_ret e2] at e
    exact ⟨d, s2, mdef_ret e, hd⟩
end K01

set_option Elab.async false
set_option linter.all false
set_option maxRecDepth 100000
set_option maxHeartbeats 4000000
set_option autoImplicit false
namespace K01
open PySem L2 Tw
local macro_rules | `(tactic| walk_at "tw") => `(tactic| simp only [mdef, startL, sseq, zNx, zIf, zRet, zRetN, zEx, zBk, zCt, zRaise, sasg, spar, sof_ret, sof_ok, mret_ap, mbind_ap, obind_ok, mbind_ret, mbind_bad, kC, kOp, kUn, kB, kAnd, kOr, kNot, kAndV, kOrV, kNotV, kIf, kCh, aNil, aCons, kCall, iL, iT, iR1, iR2, mvar, gnm, asB, asL, asT, int2, int2c, addIL, addI, subI, mul_eq, fdv_eq, fdv_64, fmd_eq, ne_eq, not_false_eq_true, Int.reduceEq, Nat.reduceLeDiff, Int.reduceAdd, Int.reduceNeg, p9, p15, p18, p20, p30, negI, ltI, leI, gtI, geI, eqA, neA, isBo, isNo, tupD, lstD, itemD, gcdD, intD, absD, lenD, penGet, penPut, Pen.get, Pen.put,
  ii_int, ii_bool, ib_int, ib_bool, in_int, is_int, it_int, il_int, it_tuple,
  List.map_cons, List.map_nil, List.length_cons, List.length_nil, List.cons_append, List.nil_append, List.getElem?_cons_zero, List.getElem?_cons_succ, List.set_cons_zero, List.set_cons_succ, List.replicate_succ, List.replicate_zero, Nat.reduceSub, Nat.reduceAdd, if_true, if_false, decide_eq_true_eq, Bool.not_eq_true', Bool.true_eq_false, Bool.false_eq_true, reduceIte, decide_true, decide_false, Bool.not_true, Bool.not_false, ite_true, ite_false, List.length_map, *])

theorem of_ok (s : Pen) (xs : List D) (h : 0 < xs.length) (hl : xs.length ≤ 1000) : ∃ d s', m__law_of [.pen, .lst xs] s = .ok d s' ∧ d ∈ xs := by
  have hlog : ((xs.length : Nat) : Int).natAbs.log2 < 9000 := by
    have : ((xs.length : Nat) : Int).natAbs ≤ 1000 := by omega
    exact Nat.lt_of_le_of_lt (log2_le this) (by decide)
  obtain ⟨d, s1, e1, h0, h1⟩ := take_ok s (xs.length : Nat) (by omega) hlog
  obtain ⟨j, rfl⟩ := Int.eq_ofNat_of_zero_le h0
  have hj : j < xs.length := by omega
  have hat : atI xs ((j : Nat) : Int) = some xs[j] := atI_nat (List.getElem?_eq_some_iff.mpr ⟨hj, rfl⟩)
  refine ⟨xs[j], s1, ?_, List.getElem_mem _⟩
  unfold m__law_of b__law_of
  walk_at "tw"
theorem num_ok (s : Pen) : ∃ n s', m__law_number [.pen] s = .ok (.int n) s' ∧ Sm 100 n := by
  obtain ⟨w, s1, e1, h0, h1⟩ := take_ok s 8 (by decide) (by decide)
  by_cases w0 : w = 0
  · subst w0
    exact ⟨0, s1, by unfold m__law_number b__law_number b__law_number_0 b__law_number_1 b__law_number_2 b__law_number_3 b__law_number_4; walk_at "tw", by decide⟩
  · by_cases w1 : w = 1
    · subst w1
      obtain ⟨d, s2, e2, hd⟩ := of_ok s1 [.int 1000000000000000000000000000000, .int (-1000000000000000000000000000000)] (by decide) (by decide)
      obtain ⟨v, s3, e3, v0, v1⟩ := take_ok s2 7 (by decide) (by decide)
      have hd2 : d = .int 1000000000000000000000000000000 ∨ d = .int (-1000000000000000000000000000000) := by
        rcases List.mem_cons.mp hd with z | z
        · exact .inl z
        · exact .inr (List.mem_singleton.mp z)
      rcases hd2 with rfl | rfl
      · refine ⟨1000000000000000000000000000000 + v - 3, s3, ?_, by unfold Sm; omega⟩
        unfold m__law_number b__law_number b__law_number_0 b__law_number_1 b__law_number_2 b__law_number_3 b__law_number_4
        walk_at "tw"
      · refine ⟨-1000000000000000000000000000000 + v - 3, s3, ?_, by unfold Sm; omega⟩
        unfold m__law_number b__law_number b__law_number_0 b__law_number_1 b__law_number_2 b__law_number_3 b__law_number_4
        walk_at "tw"
    · by_cases w2 : w = 2
      · subst w2
        obtain ⟨v, s3, e3, v0, v1⟩ := take_ok s1 2000000001 (by decide) (by decide)
        have hm : mulI (.int 2) (.int 1000000000) = mret (.int 2000000000) := rfl
        refine ⟨v - 1000000000, s3, ?_, by unfold Sm; omega⟩
        unfold m__law_number b__law_number b__law_number_0 b__law_number_1 b__law_number_2 b__law_number_3 b__law_number_4
        walk_at "tw"
      · obtain ⟨v, s3, e3, v0, v1⟩ := take_ok s1 41 (by decide) (by decide)
        refine ⟨v - 20, s3, ?_, by unfold Sm; omega⟩
        unfold m__law_number b__law_number b__law_number_0 b__law_number_1 b__law_number_2 b__law_number_3 b__law_number_4
        walk_at "tw"
theorem frac_ok (s : Pen) : ∃ a b s', m__law_fraction [.pen] s = .ok (.tup [.int a, .int b]) s' ∧ b ≠ 0 ∧ Sm 167 a ∧ Sm 167 b := by
  obtain ⟨x, s1, e1, hx⟩ := num_ok s
  obtain ⟨y, s2, e2, hy⟩ := num_ok s1
  obtain ⟨d, s3, e3, hd⟩ := of_ok s2 [.int 1, .int 1, .int 6, .int (-10), .int 100000000000000000000] (by decide) (by decide)
  have ht : ∃ t, d = .int t ∧ t ≠ 0 ∧ Sm 67 t := by
    simp only [List.mem_cons, List.not_mem_nil, or_false] at hd
    rcases hd with rfl | rfl | rfl | rfl | rfl <;> exact ⟨_, rfl, by decide, by decide⟩
  obtain ⟨t, rfl, ht0, ht⟩ := ht
  have m1 : mulOk x t = true := mulOk_s hx ht (by decide) (by decide) (by decide)
  by_cases y0 : y = 0
  · subst y0
    have m2 : mulOk (-7) t = true := mulOk_l (by decide)
    refine ⟨x * t, -7 * t, s3, ?_, by omega, hx.mul ht, (show Sm 100 (-7) by decide).mul ht⟩
    unfold m__law_fraction b__law_fraction b__law_fraction_0 b__law_fraction_1 b__law_fraction_2 b__law_fraction_3 b__law_fraction_4
    walk_at "tw"
  · have m2 : mulOk y t = true := mulOk_s hy ht (by decide) (by decide) (by decide)
    refine ⟨x * t, y * t, s3, ?_, fun z => (Int.mul_eq_zero.mp z).elim y0 ht0, hx.mul ht, hy.mul ht⟩
    unfold m__law_fraction b__law_fraction b__law_fraction_0 b__law_fraction_1 b__law_fraction_2 b__law_fraction_3 b__law_fraction_4
    walk_at "tw"
end K01

set_option Elab.async false
set_option linter.all false
set_option maxRecDepth 100000
set_option maxHeartbeats 4000000
set_option autoImplicit false
namespace K01
open PySem L2 Tw
local macro_rules | `(tactic| walk_at "tw") => `(tactic| simp only [mdef, startL, sseq, zNx, zIf, zRet, zRetN, zEx, zBk, zCt, zRaise, sasg, spar, sof_ret, sof_ok, mret_ap, mbind_ap, obind_ok, mbind_ret, mbind_bad, kC, kOp, kUn, kB, kAnd, kOr, kNot, kAndV, kOrV, kNotV, kIf, kCh, aNil, aCons, kCall, iL, iT, iR1, iR2, mvar, gnm, asB, asL, asT, int2, int2c, addIL, addI, subI, mul_eq, fdv_eq, fdv_64, fmd_eq, ne_eq, not_false_eq_true, Int.reduceEq, Nat.reduceLeDiff, Int.reduceAdd, Int.reduceNeg, p9, p15, p18, p20, p30, negI, ltI, leI, gtI, geI, eqA, neA, isBo, isNo, tupD, lstD, itemD, gcdD, intD, absD, lenD, penGet, penPut, Pen.get, Pen.put,
  ii_int, ii_bool, ib_int, ib_bool, in_int, is_int, it_int, il_int, it_tuple,
  List.map_cons, List.map_nil, List.length_cons, List.length_nil, List.cons_append, List.nil_append, List.getElem?_cons_zero, List.getElem?_cons_succ, List.set_cons_zero, List.set_cons_succ, List.replicate_succ, List.replicate_zero, Nat.reduceSub, Nat.reduceAdd, if_true, if_false, decide_eq_true_eq, Bool.not_eq_true', Bool.true_eq_false, Bool.false_eq_true, reduceIte, decide_true, decide_false, Bool.not_true, Bool.not_false, ite_true, ite_false, List.length_map, *])


theorem isnum_int (i : Int) : m__law_is_number [.int i] = mret (.bl true) := by
  funext s
  unfold m__law_is_number b__law_is_number
  walk_at "tw"
theorem ratio_eq (a b : Int) (hb : b ≠ 0) (h9 : b.natAbs.log2 < 9000) : m_ratio [.int a, .int b] = mret (rd (Rat.divInt a b)) := by
  funext s
  have hg : 0 < Nat.gcd a.natAbs b.natAbs := Nat.gcd_pos_of_pos_right _ (by omega)
  have hl : (Nat.gcd a.natAbs b.natAbs).log2 < 9000 := Nat.lt_of_le_of_lt (log2_le (Nat.le_of_dvd (by omega) (Nat.gcd_dvd_right ..))) h9
  have hi : ((Nat.gcd a.natAbs b.natAbs : Nat) : Int) ≠ 0 := by omega
  have hn : (((Nat.gcd a.natAbs b.natAbs : Nat) : Int)).natAbs.log2 < 9000 := by simpa using hl
  have k := lowered a b hb _ rfl
  unfold m_ratio b_ratio b_ratio_0 b_ratio_1 b_ratio_2 b_ratio_3
  by_cases hneg : b < 0
  · have hn' : (-((Nat.gcd a.natAbs b.natAbs : Nat) : Int)).natAbs.log2 < 9000 := by rw [Int.natAbs_neg]; exact hn
    have hi' : -((Nat.gcd a.natAbs b.natAbs : Nat) : Int) ≠ 0 := by omega
    have f1 := fdv_eq (i := a) hi' hn'
    have f2 := fdv_eq (i := b) hi' hn'
    rw [if_pos hneg] at k
    rw [← k]
    clear hg hl hi hn hi' hn' k
    walk_at "tw"
  · have f1 := fdv_eq (i := a) hi hn
    have f2 := fdv_eq (i := b) hi hn
    rw [if_neg hneg] at k
    rw [← k]
    clear hg hl hi hn k
    walk_at "tw"
theorem ratio_no (a : Int) (s : Pen) : m_ratio [.int a, .int 0] s = .exc 1 [] [] s := by
  unfold m_ratio b_ratio b_ratio_0 b_ratio_1 b_ratio_2 b_ratio_3
  walk_at "tw"
theorem sum_eq (p q : Rat) (hp : Rs 400 p) (hq : Rs 400 q) : m_ratio_sum [rd p, rd q] = mret (rd (p + q)) := by
  funext s
  have m1 : mulOk p.num ((q.den : Nat) : Int) = true := mulOk_s hp.1 hq.2 (by decide) (by decide) (by decide)
  have m2 : mulOk q.num ((p.den : Nat) : Int) = true := mulOk_s hq.1 hp.2 (by decide) (by decide) (by decide)
  have m3 : mulOk ((p.den : Nat) : Int) ((q.den : Nat) : Int) = true := mulOk_s hp.2 hq.2 (by decide) (by decide) (by decide)
  have e := ratio_eq (p.num * (q.den : Nat) + q.num * (p.den : Nat)) ((p.den : Nat) * (q.den : Nat)) (dens p q) (Nat.lt_of_lt_of_le ((hp.2.mul hq.2).log (by decide)) (by decide))
  rw [← rat_add] at e
  unfold m_ratio_sum b_ratio_sum
  unfold rd at *
  have i0 : ∀ a b : D, atI [a, b] 0 = some a := fun _ _ => rfl
  have i1 : ∀ a b : D, atI [a, b] 1 = some b := fun _ _ => rfl
  walk_at "tw"
theorem prod_eq (p q : Rat) (hp : Rs 400 p) (hq : Rs 400 q) : m_ratio_product [rd p, rd q] = mret (rd (p * q)) := by
  funext s
  have m1 : mulOk p.num q.num = true := mulOk_s hp.1 hq.1 (by decide) (by decide) (by decide)
  have m3 : mulOk ((p.den : Nat) : Int) ((q.den : Nat) : Int) = true := mulOk_s hp.2 hq.2 (by decide) (by decide) (by decide)
  have e := ratio_eq (p.num * q.num) ((p.den : Nat) * (q.den : Nat)) (dens p q) (Nat.lt_of_lt_of_le ((hp.2.mul hq.2).log (by decide)) (by decide))
  rw [← rat_mul] at e
  unfold m_ratio_product b_ratio_product
  unfold rd at *
  have i0 : ∀ a b : D, atI [a, b] 0 = some a := fun _ _ => rfl
  have i1 : ∀ a b : D, atI [a, b] 1 = some b := fun _ _ => rfl
  walk_at "tw"
theorem cmp_eq (p q : Rat) (hp : Rs 400 p) (hq : Rs 400 q) : m_compare_ratios [rd p, rd q] = mret (.int (Int.sign (p.num * (q.den : Nat) - q.num * (p.den : Nat)))) := by
  funext s
  have m1 : mulOk p.num ((q.den : Nat) : Int) = true := mulOk_s hp.1 hq.2 (by decide) (by decide) (by decide)
  have m2 : mulOk q.num ((p.den : Nat) : Int) = true := mulOk_s hq.1 hp.2 (by decide) (by decide) (by decide)
  unfold m_compare_ratios b_compare_ratios b_compare_ratios_0 b_compare_ratios_1 b_compare_ratios_2
  unfold rd at *
  have i0 : ∀ a b : D, atI [a, b] 0 = some a := fun _ _ => rfl
  have i1 : ∀ a b : D, atI [a, b] 1 = some b := fun _ _ => rfl
  generalize hx : p.num * ((q.den : Nat) : Int) - q.num * ((p.den : Nat) : Int) = x
  rcases Int.lt_trichotomy x 0 with h | h | h
  · have h2 : Int.sign x = -1 := Int.sign_eq_neg_one_of_neg h
    walk_at "tw"
  · subst h
    have h3 : Int.sign 0 = 0 := rfl
    have h4 : ¬ (0 : Int) < 0 := by decide
    walk_at "tw"
  · have h2 : Int.sign x = 1 := Int.sign_eq_one_of_pos h
    have h3 : ¬ x < 0 := by omega
    walk_at "tw"
theorem sign_eq (x : Int) : m__law_sign [.int x] = mret (.int (Int.sign x)) := by
  funext s
  unfold m__law_sign b__law_sign
  rcases Int.lt_trichotomy x 0 with h | h | h
  · have h2 : Int.sign x = -1 := Int.sign_eq_neg_one_of_neg h
    have h3 : ¬ 0 < x := by omega
    walk_at "tw"
    rfl
  · subst h
    rfl
  · have h2 : Int.sign x = 1 := Int.sign_eq_one_of_pos h
    have h3 : ¬ x < 0 := by omega
    walk_at "tw"
    rfl
theorem turn_eq (a b : Nat) (x : Option D) (s : Pen) : lb__law_divisor_0 [some (.int (a : Nat)), some (.int (b : Nat)), x] s = if b = 0 then .bk [some (.int (a : Nat)), some (.int (b : Nat)), x] s else .nx [some (.int (b : Nat)), some (.int ((a % b : Nat) : Int)), x] s := by
  unfold lb__law_divisor_0
  by_cases h : b = 0
  · subst h
    have e0 : ((0 : Nat) : Int) = 0 := rfl
    walk_at "tw"
  · have h1 : ((b : Nat) : Int) ≠ 0 := by omega
    have h2 : ((a : Nat) : Int).fmod (b : Nat) = ((a % b : Nat) : Int) := by
      rw [Int.fmod_eq_emod_of_nonneg _ (by omega)]
      rfl
    walk_at "tw"
theorem euc (s : Pen) : ∀ (k : Nat) (ds : List D) (a b : Nat) (x : Option D), b ≤ a → a * b < 2 ^ k → k ≤ ds.length → ∃ y z, sloop (gnm 2) lb__law_divisor_0 ds [some (.int (a : Nat)), some (.int (b : Nat)), x] s = .nx [some (.int ((Nat.gcd a b : Nat) : Int)), y, z] s := by
  have stop : ∀ (ds : List D) (a : Nat) (x : Option D), ∃ y z, sloop (gnm 2) lb__law_divisor_0 ds [some (.int (a : Nat)), some (.int ((0 : Nat) : Int)), x] s = .nx [some (.int ((Nat.gcd a 0 : Nat) : Int)), y, z] s := by
    intro ds a x
    rw [Nat.gcd_zero_right]
    cases ds with
    | nil => exact ⟨_, _, rfl⟩
    | cons d ds =>
      refine ⟨some (.int ((0 : Nat) : Int)), some d, ?_⟩
      unfold sloop
      show (match lb__law_divisor_0 [some (.int (a : Nat)), some (.int ((0 : Nat) : Int)), some d] s with | _ => _) = _
      rw [turn_eq, if_pos rfl]
      rfl
  intro k
  induction k with
  | zero =>
    intro ds a b x hle hlt _
    have : b = 0 := by
      have h1 : a * b = 0 := by simpa using hlt
      rcases Nat.mul_eq_zero.mp h1 with z | z <;> omega
    subst this
    exact stop ds a x
  | succ k ih =>
    intro ds a b x hle hlt hk
    by_cases hb : b = 0
    · subst hb; exact stop ds a x
    · cases ds with
      | nil => simp at hk
      | cons d ds =>
        have hr : a % b < b := Nat.mod_lt _ (by omega)
        have h2 : 2 * (a % b) ≤ a := by
          have e := Nat.div_add_mod a b
          have hq : 1 ≤ a / b := (Nat.one_le_div_iff (by omega)).mpr hle
          have : b * 1 ≤ b * (a / b) := Nat.mul_le_mul_left b hq
          omega
        have h3 : b * (a % b) < 2 ^ k := by
          have : b * (2 * (a % b)) ≤ b * a := Nat.mul_le_mul_left b h2
          have e : b * (2 * (a % b)) = 2 * (b * (a % b)) := by rw [← Nat.mul_assoc, Nat.mul_comm b 2, Nat.mul_assoc]
          have e2 : b * a = a * b := Nat.mul_comm ..
          rw [Nat.pow_succ] at hlt
          omega
        obtain ⟨y, z, e⟩ := ih ds b (a % b) (some d) (by omega) h3 (by simp at hk; omega)
        refine ⟨y, z, ?_⟩
        unfold sloop
        show (match lb__law_divisor_0 [some (.int (a : Nat)), some (.int (b : Nat)), some d] s with | .nx ρ2 s2 => sloop (gnm 2) lb__law_divisor_0 ds ρ2 s2 | .ct ρ2 s2 => sloop (gnm 2) lb__law_divisor_0 ds ρ2 s2 | .bk ρ2 s2 => .nx ρ2 s2 | .ret d s2 => .ret d s2 | .exc c ns xs ρ2 s2 => .exc c ns xs ρ2 s2 | .bad => .bad) = _
        rw [turn_eq, if_neg hb]
        dsimp only
        rw [e, show Nat.gcd a b = Nat.gcd b (a % b) by rw [Nat.gcd_comm a b, Nat.gcd_rec b a, Nat.gcd_comm]]
theorem div_eq (a b : Int) (ha : Sm 1000 a) (hb : Sm 1000 b) : m__law_divisor [.int a, .int b] = mret (.int ((Nat.gcd a.natAbs b.natAbs : Nat) : Int)) := by
  funext s
  have ab : ∀ x : Int, (if x < 0 then -x else x) = ((x.natAbs : Nat) : Int) := fun x => by split <;> omega
  have e0 : b__law_divisor_0 [some (.int a), some (.int b), none] s = .nx [some (.int (a.natAbs : Nat)), some (.int (b.natAbs : Nat)), none] s := by
    unfold b__law_divisor_0
    walk_at "tw"
  have hlen : (rngL 0 (3000 : Int).toNat).length = 3000 := by simp [rngL]
  have e1 : ∃ y z, b__law_divisor_1 [some (.int (a.natAbs : Nat)), some (.int (b.natAbs : Nat)), none] s = .nx [some (.int ((Nat.gcd a.natAbs b.natAbs : Nat) : Int)), y, z] s := by
    have er : iR1 (aCons (kC (.int 3000)) aNil) [some (.int (a.natAbs : Nat)), some (.int (b.natAbs : Nat)), none] s = .ok (rngL 0 (3000 : Int).toNat) s := rfl
    have es : b__law_divisor_1 [some (.int (a.natAbs : Nat)), some (.int (b.natAbs : Nat)), none] s = sloop (gnm 2) lb__law_divisor_0 (rngL 0 (3000 : Int).toNat) [some (.int (a.natAbs : Nat)), some (.int (b.natAbs : Nat)), none] s := by
      unfold b__law_divisor_1 sfor
      rw [er]
      rfl
    rw [es]
    generalize hds : rngL 0 (3000 : Int).toNat = ds at *
    by_cases hle : b.natAbs ≤ a.natAbs
    · refine euc s 2000 ds _ _ none hle ?_ (by omega)
      have := Nat.mul_lt_mul'' ha hb
      rw [← Nat.pow_add] at this
      exact this
    · cases ds with
      | nil => simp at hlen
      | cons d ds =>
        have hr : a.natAbs % b.natAbs < b.natAbs := Nat.mod_lt _ (by omega)
        have h3 : b.natAbs * (a.natAbs % b.natAbs) < 2 ^ 2000 := by
          have := Nat.mul_lt_mul'' hb (Nat.lt_trans hr hb)
          rw [← Nat.pow_add] at this
          exact this
        obtain ⟨y, z, e⟩ := euc s 2000 ds _ _ (some d) (Nat.le_of_lt hr) h3 (by simp at hlen; omega)
        refine ⟨y, z, ?_⟩
        unfold sloop
        show (match lb__law_divisor_0 [some (.int (a.natAbs : Nat)), some (.int (b.natAbs : Nat)), some d] s with | .nx ρ2 s2 => sloop (gnm 2) lb__law_divisor_0 ds ρ2 s2 | .ct ρ2 s2 => sloop (gnm 2) lb__law_divisor_0 ds ρ2 s2 | .bk ρ2 s2 => .nx ρ2 s2 | .ret d s2 => .ret d s2 | .exc c ns xs ρ2 s2 => .exc c ns xs ρ2 s2 | .bad => .bad) = _
        rw [turn_eq, if_neg (by omega)]
        dsimp only
        rw [e, show Nat.gcd a.natAbs b.natAbs = Nat.gcd b.natAbs (a.natAbs % b.natAbs) by rw [Nat.gcd_comm a.natAbs b.natAbs, Nat.gcd_rec b.natAbs a.natAbs, Nat.gcd_comm]]
  obtain ⟨y, z, e1⟩ := e1
  refine mdef_ret ?_
  show sseq b__law_divisor_0 (sseq b__law_divisor_1 b__law_divisor_2) [some (.int a), some (.int b), none] s = _
  rw [sseq_nx e0, sseq_nx e1]
  rfl
end K01

set_option Elab.async false
set_option linter.all false
set_option maxRecDepth 100000
set_option maxHeartbeats 4000000
set_option autoImplicit false
namespace K01
open PySem L2 Tw
local macro_rules | `(tactic| walk_at "tw") => `(tactic| simp only [mdef, startL, sseq, zNx, zIf, zRet, zRetN, zEx, zBk, zCt, zRaise, sasg, spar, sof_ret, sof_ok, mret_ap, mbind_ap, obind_ok, mbind_ret, mbind_bad, kC, kOp, kUn, kB, kAnd, kOr, kNot, kAndV, kOrV, kNotV, kIf, kCh, aNil, aCons, kCall, iL, iT, iR1, iR2, mvar, gnm, asB, asL, asT, int2, int2c, addIL, addI, subI, mul_eq, fdv_eq, fdv_64, fmd_eq, ne_eq, not_false_eq_true, Int.reduceEq, Nat.reduceLeDiff, Int.reduceAdd, Int.reduceNeg, p9, p15, p18, p20, p30, negI, ltI, leI, gtI, geI, eqA, neA, isBo, isNo, tupD, lstD, itemD, gcdD, intD, absD, lenD, penGet, penPut, Pen.get, Pen.put,
  ii_int, ii_bool, ib_int, ib_bool, in_int, is_int, it_int, il_int, it_tuple,
  List.map_cons, List.map_nil, List.length_cons, List.length_nil, List.cons_append, List.nil_append, List.getElem?_cons_zero, List.getElem?_cons_succ, List.set_cons_zero, List.set_cons_succ, List.replicate_succ, List.replicate_zero, Nat.reduceSub, Nat.reduceAdd, if_true, if_false, decide_eq_true_eq, Bool.not_eq_true', Bool.true_eq_false, Bool.false_eq_true, reduceIte, decide_true, decide_false, Bool.not_true, Bool.not_false, ite_true, ite_false, List.length_map, *])



theorem i20 (a b : D) : atI [a, b] 0 = some a := rfl
theorem i21 (a b : D) : atI [a, b] 1 = some b := rfl
theorem right_eq (q : Rat) (a b : Int) (hb : b ≠ 0) (hq : q = Rat.divInt a b) (sa : Sm 500 a) (sb : Sm 500 b) : m__law_right [rd q, .int a, .int b] = mret (.bl true) := by
  funext s
  have hr : Rs 500 q := by rw [hq]; exact rs_of sa sb hb
  have c : q.num * b = a * (q.den : Nat) := by rw [hq]; exact cross hb
  have dp : (0 : Int) < (q.den : Nat) := by have := q.den_nz; omega
  have g1 : Nat.gcd q.num.natAbs ((q.den : Nat) : Int).natAbs = 1 := by rw [Int.natAbs_natCast]; exact q.reduced
  have d1 := div_eq q.num ((q.den : Nat) : Int) (hr.1.mono (by decide)) (hr.2.mono (by decide))
  rw [g1] at d1
  have m1 : mulOk q.num b = true := mulOk_s hr.1 sb (by decide) (by decide) (by decide)
  have m2 : mulOk a ((q.den : Nat) : Int) = true := mulOk_s sa hr.2 (by decide) (by decide) (by decide)
  have l1 : ¬ ((q.den : Nat) : Int) < 1 := by omega
  have e1 : (((1 : Nat) : Int) = 1) := rfl
  have n1 := isnum_int q.num
  have n2 := isnum_int ((q.den : Nat) : Int)
  have e2 : (((0 + 1 + 1 : Nat) : Int) = 2) := rfl
  have j0 := i20 (.int q.num) (.int ((q.den : Nat) : Int))
  have j1 := i21 (.int q.num) (.int ((q.den : Nat) : Int))
  unfold m__law_right b__law_right b__law_right_0 b__law_right_1 b__law_right_2
  unfold rd
  clear hq hr g1 hb sa sb dp
  walk_at "tw"
theorem two_eq (a0 a1 b0 b1 : Int) (ha : a1 ≠ 0) (hb : b1 ≠ 0) (sa0 : Sm 167 a0) (sa1 : Sm 167 a1) (sb0 : Sm 167 b0) (sb1 : Sm 167 b1) : m__law_two [.tup [.int a0, .int a1], .tup [.int b0, .int b1]] = mret (.bl true) := by
  funext s
  obtain ⟨p, hp⟩ : ∃ p, p = Rat.divInt a0 a1 := ⟨_, rfl⟩
  obtain ⟨q, hq⟩ : ∃ q, q = Rat.divInt b0 b1 := ⟨_, rfl⟩
  have rp : Rs 167 p := by rw [hp]; exact rs_of sa0 sa1 ha
  have rq : Rs 167 q := by rw [hq]; exact rs_of sb0 sb1 hb
  have rp4 : Rs 400 p := ⟨rp.1.mono (by decide), rp.2.mono (by decide)⟩
  have rq4 : Rs 400 q := ⟨rq.1.mono (by decide), rq.2.mono (by decide)⟩
  have e1 := ratio_eq a0 a1 ha (Nat.lt_of_lt_of_le (sa1.log (by decide)) (by decide))
  have e2 := ratio_eq b0 b1 hb (Nat.lt_of_lt_of_le (sb1.log (by decide)) (by decide))
  rw [← hp] at e1
  rw [← hq] at e2
  have r1 := right_eq p a0 a1 ha hp (sa0.mono (by decide)) (sa1.mono (by decide))
  have r2 := right_eq q b0 b1 hb hq (sb0.mono (by decide)) (sb1.mono (by decide))
  have c1 := cmp_eq p q rp4 rq4
  have c2 := cmp_eq q p rq4 rp4
  have sg := signs ha hb hp hq
  have neg : Int.sign (q.num * (p.den : Nat) - p.num * (q.den : Nat)) = - Int.sign (p.num * (q.den : Nat) - q.num * (p.den : Nat)) := by
    rw [← Int.sign_neg, Int.neg_sub]
  rw [neg, sg] at c2
  rw [sg] at c1
  have hn : a1 * b1 ≠ 0 := Int.mul_ne_zero ha hb
  have s1 := sum_eq p q rp4 rq4
  have s2 := prod_eq p q rp4 rq4
  have qs : p + q = Rat.divInt (a0 * b1 + b0 * a1) (a1 * b1) := by rw [hp, hq, Rat.divInt_add_divInt _ _ ha hb]
  have qp : p * q = Rat.divInt (a0 * b0) (a1 * b1) := by rw [hp, hq, Rat.divInt_mul_divInt]
  have t1 : Sm 334 (a0 * b1) := sa0.mul sb1
  have t2 : Sm 334 (b0 * a1) := sb0.mul sa1
  have t3 : Sm 334 (a1 * b1) := sa1.mul sb1
  have t4 : Sm 334 (a0 * b0) := sa0.mul sb0
  have r3 := right_eq (p + q) (a0 * b1 + b0 * a1) (a1 * b1) hn qs ((t1.add t2).mono (by decide)) (t3.mono (by decide))
  have r4 := right_eq (p * q) (a0 * b0) (a1 * b1) hn qp (t4.mono (by decide)) (t3.mono (by decide))
  have m1 : mulOk a0 b1 = true := mulOk_s sa0 sb1 (by decide) (by decide) (by decide)
  have m2 : mulOk b0 a1 = true := mulOk_s sb0 sa1 (by decide) (by decide) (by decide)
  have m3 : mulOk a1 b1 = true := mulOk_s sa1 sb1 (by decide) (by decide) (by decide)
  have m4 : mulOk a0 b0 = true := mulOk_s sa0 sb0 (by decide) (by decide) (by decide)
  have g1 := sign_eq (a0 * b1 - b0 * a1)
  have g2 := sign_eq (a1 * b1)
  have m5 : mulOk (Int.sign (a0 * b1 - b0 * a1)) (Int.sign (a1 * b1)) = true := mulOk_l (by rcases Int.lt_trichotomy (a0 * b1 - b0 * a1) 0 with h | h | h; (rw [Int.sign_eq_neg_one_of_neg h]; decide); (rw [h]; decide); (rw [Int.sign_eq_one_of_pos h]; decide))
  have n1 := isnum_int (Int.sign (a0 * b1 - b0 * a1) * Int.sign (a1 * b1))
  have j0 := i20 (.int a0) (.int a1)
  have j1 := i21 (.int a0) (.int a1)
  have j2 := i20 (.int b0) (.int b1)
  have j3 := i21 (.int b0) (.int b1)
  unfold m__law_two b__law_two b__law_two_0 b__law_two_1 b__law_two_2 b__law_two_3 b__law_two_4 b__law_two_5 b__law_two_6 b__law_two_7
  clear hp hq rp rq rp4 rq4 sg neg hn qs qp t1 t2 t3 t4 ha hb sa0 sa1 sb0 sb1
  walk_at "tw"
end K01

set_option Elab.async false
set_option linter.all false
set_option maxRecDepth 100000
set_option maxHeartbeats 4000000
set_option autoImplicit false
namespace K01
open PySem L2 Tw
local macro_rules | `(tactic| walk_at "tw") => `(tactic| simp only [mdef, startL, sseq, zNx, zIf, zRet, zRetN, zEx, zBk, zCt, zRaise, sasg, spar, sof_ret, sof_ok, mret_ap, mbind_ap, obind_ok, mbind_ret, mbind_bad, kC, kOp, kUn, kB, kAnd, kOr, kNot, kAndV, kOrV, kNotV, kIf, kCh, aNil, aCons, kCall, iL, iT, iR1, iR2, mvar, gnm, asB, asL, asT, int2, int2c, addIL, addI, subI, mul_eq, fdv_eq, fdv_64, fmd_eq, ne_eq, not_false_eq_true, Int.reduceEq, Nat.reduceLeDiff, Int.reduceAdd, Int.reduceNeg, p9, p15, p18, p20, p30, negI, ltI, leI, gtI, geI, eqA, neA, isBo, isNo, tupD, lstD, itemD, gcdD, intD, absD, lenD, penGet, penPut, Pen.get, Pen.put,
  ii_int, ii_bool, ib_int, ib_bool, in_int, is_int, it_int, il_int, it_tuple,
  List.map_cons, List.map_nil, List.length_cons, List.length_nil, List.cons_append, List.nil_append, List.getElem?_cons_zero, List.getElem?_cons_succ, List.set_cons_zero, List.set_cons_succ, List.replicate_succ, List.replicate_zero, Nat.reduceSub, Nat.reduceAdd, if_true, if_false, decide_eq_true_eq, Bool.not_eq_true', Bool.true_eq_false, Bool.false_eq_true, reduceIte, decide_true, decide_false, Bool.not_true, Bool.not_false, ite_true, ite_false, List.length_map, *])




theorem rsm (p : Rat) (n m : Nat) (h : Rs n p) (hm : n ≤ m) : Rs m p := ⟨h.1.mono hm, h.2.mono hm⟩
theorem rs_add {p q : Rat} (hp : Rs 167 p) (hq : Rs 167 q) : Rs 400 (p + q) := by
  rw [rat_add]
  exact rsm _ _ _ (rs_of (n := 335) ((hp.1.mul hq.2).add (hq.1.mul hp.2)) ((hp.2.mul hq.2).mono (by decide)) (dens p q)) (by decide)
theorem rs_mul {p q : Rat} (hp : Rs 167 p) (hq : Rs 167 q) : Rs 400 (p * q) := by
  rw [rat_mul]
  exact rsm _ _ _ (rs_of (n := 334) (hp.1.mul hq.1) (hp.2.mul hq.2) (dens p q)) (by decide)
theorem three_eq (p q r : Rat) (hp : Rs 167 p) (hq : Rs 167 q) (hr : Rs 167 r) : m__law_three [rd p, rd q, rd r] = mret (.bl true) := by
  funext s
  have hp4 := rsm _ _ 400 hp (by decide)
  have hq4 := rsm _ _ 400 hq (by decide)
  have hr4 := rsm _ _ 400 hr (by decide)
  have a1 := sum_eq p q hp4 hq4
  have a2 := sum_eq (p + q) r (rs_add hp hq) hr4
  have a3 := sum_eq r q hr4 hq4
  have a4 := sum_eq p (r + q) hp4 (rs_add hr hq)
  have b1 := prod_eq p q hp4 hq4
  have b2 := prod_eq (p * q) r (rs_mul hp hq) hr4
  have b3 := prod_eq r q hr4 hq4
  have b4 := prod_eq p (r * q) hp4 (rs_mul hr hq)
  have c1 := sum_eq q r hq4 hr4
  have c2 := prod_eq p (q + r) hp4 (rs_add hq hr)
  have c3 := prod_eq r p hr4 hp4
  have c4 := sum_eq (p * q) (r * p) (rs_mul hp hq) (rs_mul hr hp)
  have e1 : p + (r + q) = p + q + r := by rw [Rat.add_comm r q, Rat.add_assoc]
  have e2 : p * (r * q) = p * q * r := by rw [Rat.mul_comm r q, Rat.mul_assoc]
  have e3 : p * q + r * p = p * (q + r) := by rw [Rat.mul_add, Rat.mul_comm r p]
  rw [e1] at a4
  rw [e2] at b4
  rw [e3] at c4
  have n1 := ne_rd (p + q + r)
  have n2 := ne_rd (p * q * r)
  have n3 := eq_rd (p * (q + r))
  unfold m__law_three b__law_three b__law_three_0 b__law_three_1 b__law_three_2
  clear hp hq hr hp4 hq4 hr4 e1 e2 e3
  generalize rd p = P at *
  generalize rd q = Q at *
  generalize rd r = R at *
  simp only [mdef, startL, sseq, zNx, zIf, zRet, sof_ret, sof_ok, mret_ap, mbind_ap, obind_ok, mbind_ret, kC, kOp, kB, aNil, aCons, kCall, mvar, asB, List.map_cons, List.map_nil, List.length_cons, List.length_nil, List.cons_append, List.nil_append, List.getElem?_cons_zero, List.getElem?_cons_succ, List.replicate_succ, List.replicate_zero, Nat.reduceSub, Nat.reduceAdd, Bool.false_eq_true, reduceIte, a1, a2, a3, a4, b1, b2, b3, b4, c1, c2, c3, c4, n1, n2, n3]
theorem refused_eq (a : Int) : m__law_refused [.int a] = mret (.bl true) := by
  funext s
  rfl
theorem whole_int (t lo hi : Int) : m_is_whole [.int t, .int lo, .int hi] = mret (.bl (decide (lo ≤ t) && decide (t ≤ hi))) := by
  funext s
  have e : m_is_number [.int t] = mret (.bl true) := by
    funext s
    unfold m_is_number b_is_number
    walk_at "tw"
  unfold m_is_whole b_is_whole
  by_cases h : lo ≤ t
  · walk_at "tw"
    simp
  · walk_at "tw"
    simp
/-- a thing that is no whole number -/
def Odd (d : D) : Prop := (∃ b, d = .bl b) ∨ d = .non ∨ (∃ x, d = .str x) ∨ (∃ xs, d = .tup xs) ∨ ∃ xs, d = .lst xs
theorem odd_num (d : D) (h : Odd d) : m_is_number [d] = mret (.bl false) ∧ m__law_is_number [d] = mret (.bl false) := by
  rcases h with ⟨b, rfl⟩ | rfl | ⟨x, rfl⟩ | ⟨xs, rfl⟩ | ⟨xs, rfl⟩ <;>
  · constructor <;> funext s
    · unfold m_is_number b_is_number
      walk_at "tw"
    · unfold m__law_is_number b__law_is_number
      walk_at "tw"
theorem whole_odd (d : D) (h : Odd d) (lo hi : Int) : m_is_whole [d, .int lo, .int hi] = mret (.bl false) := by
  funext s
  have e := (odd_num d h).1
  unfold m_is_whole b_is_whole
  walk_at "tw"
theorem wturn (d : D) (h : (∃ i, d = .int i) ∨ Odd d) (x0 x3 x5 x6 : Option D) (lo hi : Int) (s : Pen) : ∃ y5 y6, lb__law_wholes_0 [x0, some (.int lo), some (.int hi), x3, some d, x5, x6] s = .nx [x0, some (.int lo), some (.int hi), x3, some d, y5, y6] s := by
  unfold lb__law_wholes_0
  rcases h with ⟨i, rfl⟩ | h
  · have e1 := isnum_int i
    have e2 := whole_int i lo hi
    by_cases h1 : lo ≤ i
    · by_cases h2 : i ≤ hi
      · have e3 : (decide (lo ≤ i) && decide (i ≤ hi)) = true := by simp [h1, h2]
        rw [e3] at e2
        walk_at "tw"
        exact ⟨_, _, rfl⟩
      · have e3 : (decide (lo ≤ i) && decide (i ≤ hi)) = false := by simp [h2]
        rw [e3] at e2
        walk_at "tw"
        exact ⟨_, _, rfl⟩
    · have e3 : (decide (lo ≤ i) && decide (i ≤ hi)) = false := by simp [h1]
      rw [e3] at e2
      walk_at "tw"
      exact ⟨_, _, rfl⟩
  · have e1 := (odd_num d h).2
    have e2 := whole_odd d h lo hi
    walk_at "tw"
    exact ⟨_, _, rfl⟩
end K01

set_option Elab.async false
set_option linter.all false
set_option maxRecDepth 100000
set_option maxHeartbeats 4000000
set_option autoImplicit false
namespace K01
open PySem L2 Tw
local macro_rules | `(tactic| walk_at "tw") => `(tactic| simp only [mdef, startL, sseq, zNx, zIf, zRet, zRetN, zEx, zBk, zCt, zRaise, sasg, spar, sof_ret, sof_ok, mret_ap, mbind_ap, obind_ok, mbind_ret, mbind_bad, kC, kOp, kUn, kB, kAnd, kOr, kNot, kAndV, kOrV, kNotV, kIf, kCh, aNil, aCons, kCall, iL, iT, iR1, iR2, mvar, gnm, asB, asL, asT, int2, int2c, addIL, addI, subI, mul_eq, fdv_eq, fdv_64, fmd_eq, ne_eq, not_false_eq_true, Int.reduceEq, Nat.reduceLeDiff, Int.reduceAdd, Int.reduceNeg, p9, p15, p18, p20, p30, negI, ltI, leI, gtI, geI, eqA, neA, isBo, isNo, tupD, lstD, itemD, gcdD, intD, absD, lenD, penGet, penPut, Pen.get, Pen.put,
  ii_int, ii_bool, ib_int, ib_bool, in_int, is_int, it_int, il_int, it_tuple,
  List.map_cons, List.map_nil, List.length_cons, List.length_nil, List.cons_append, List.nil_append, List.getElem?_cons_zero, List.getElem?_cons_succ, List.set_cons_zero, List.set_cons_succ, List.replicate_succ, List.replicate_zero, Nat.reduceSub, Nat.reduceAdd, if_true, if_false, decide_eq_true_eq, Bool.not_eq_true', Bool.true_eq_false, Bool.false_eq_true, reduceIte, decide_true, decide_false, Bool.not_true, Bool.not_false, ite_true, ite_false, List.length_map, *])





theorem wholes_ok (s : Pen) : ∃ s', m__law_wholes [.pen] s = .ok (.bl true) s' := by
  obtain ⟨lo, s1, e1, hlo⟩ := num_ok s
  obtain ⟨d, s2, e2, hd⟩ := of_ok s1 [.int 0, .int 0, .int 1, .int 2, .int 30, .int 1000000000000000000000000000000, .int (-1)] (by decide) (by decide)
  have hk : ∃ k, d = .int k := by
    simp only [List.mem_cons, List.not_mem_nil, or_false] at hd
    rcases hd with rfl | rfl | rfl | rfl | rfl | rfl | rfl <;> exact ⟨_, rfl⟩
  obtain ⟨k, rfl⟩ := hk
  obtain ⟨n, s3, e3, hn⟩ := num_ok s2
  have hl : lo.natAbs.log2 < 1920 := Nat.lt_of_lt_of_le (hlo.log (by decide)) (by decide)
  have hs : strD [.int lo] = mret (.str (toString lo)) := by
    show (if decide (lo.natAbs.log2 < 1920) = true then mret (D.str (toString lo)) else mbad) = _
    rw [if_pos (decide_eq_true hl)]
  clear hlo hd hn hl
  have a0 : b__law_wholes_0 [some .pen, none, none, none, none, none, none] s = .nx [some .pen, some (.int lo), none, none, none, none, none] s1 := by
    unfold b__law_wholes_0
    walk_at "tw"
  have a1 : b__law_wholes_1 [some .pen, some (.int lo), none, none, none, none, none] s1 = .nx [some .pen, some (.int lo), some (.int (lo + k)), none, none, none, none] s2 := by
    unfold b__law_wholes_1
    walk_at "tw"
  have a2 : b__law_wholes_2 [some .pen, some (.int lo), some (.int (lo + k)), none, none, none, none] s2 = .nx [some .pen, some (.int lo), some (.int (lo + k)), some (.lst [.int lo, .int (lo - 1), .int (lo + 1), .int (lo + k), .int (lo + k + 1), .int (lo + k - 1), .int n, .int 0]), none, none, none] s3 := by
    unfold b__law_wholes_2
    walk_at "tw"
  have a3 : b__law_wholes_3 [some .pen, some (.int lo), some (.int (lo + k)), some (.lst [.int lo, .int (lo - 1), .int (lo + 1), .int (lo + k), .int (lo + k + 1), .int (lo + k - 1), .int n, .int 0]), none, none, none] s3 =
      .nx [some .pen, some (.int lo), some (.int (lo + k)), some (.lst [.int lo, .int (lo - 1), .int (lo + 1), .int (lo + k), .int (lo + k + 1), .int (lo + k - 1), .int n, .int 0, .bl true, .bl false, .non, .str (toString lo), .tup [.int lo], .lst [.int (lo + k)]]), none, none, none] s3 := by
    unfold b__law_wholes_3
    walk_at "tw"
    simp only [catL]
    walk_at "tw"
  obtain ⟨ρ', e4, _⟩ := sloop_all (gm := gnm 4) (mb := lb__law_wholes_0) (s := s3) (fun ρ => ∃ x0 x3 x4 x5 x6, ρ = [x0, some (.int lo), some (.int (lo + k)), x3, x4, x5, x6]) [.int lo, .int (lo - 1), .int (lo + 1), .int (lo + k), .int (lo + k + 1), .int (lo + k - 1), .int n, .int 0, .bl true, .bl false, .non, .str (toString lo), .tup [.int lo], .lst [.int (lo + k)]]
    [some .pen, some (.int lo), some (.int (lo + k)), some (.lst [.int lo, .int (lo - 1), .int (lo + 1), .int (lo + k), .int (lo + k + 1), .int (lo + k - 1), .int n, .int 0, .bl true, .bl false, .non, .str (toString lo), .tup [.int lo], .lst [.int (lo + k)]]), none, none, none] ⟨_, _, _, _, _, rfl⟩ (fun d hd ρ hρ => by
      obtain ⟨x0, x3, x4, x5, x6, rfl⟩ := hρ
      have hh : (∃ i, d = .int i) ∨ Odd d := by
        simp only [List.mem_cons, List.not_mem_nil, or_false] at hd
        rcases hd with rfl | rfl | rfl | rfl | rfl | rfl | rfl | rfl | rfl | rfl | rfl | rfl | rfl | rfl
        · exact .inl ⟨_, rfl⟩
        · exact .inl ⟨_, rfl⟩
        · exact .inl ⟨_, rfl⟩
        · exact .inl ⟨_, rfl⟩
        · exact .inl ⟨_, rfl⟩
        · exact .inl ⟨_, rfl⟩
        · exact .inl ⟨_, rfl⟩
        · exact .inl ⟨_, rfl⟩
        · exact .inr (.inl ⟨_, rfl⟩)
        · exact .inr (.inl ⟨_, rfl⟩)
        · exact .inr (.inr (.inl rfl))
        · exact .inr (.inr (.inr (.inl ⟨_, rfl⟩)))
        · exact .inr (.inr (.inr (.inr (.inl ⟨_, rfl⟩))))
        · exact .inr (.inr (.inr (.inr (.inr ⟨_, rfl⟩))))
      obtain ⟨y5, y6, e⟩ := wturn d hh x0 x3 x5 x6 lo (lo + k) s3
      exact ⟨_, _, rfl, e, _, _, _, _, _, rfl⟩)
  have a4 : b__law_wholes_4 [some .pen, some (.int lo), some (.int (lo + k)), some (.lst [.int lo, .int (lo - 1), .int (lo + 1), .int (lo + k), .int (lo + k + 1), .int (lo + k - 1), .int n, .int 0, .bl true, .bl false, .non, .str (toString lo), .tup [.int lo], .lst [.int (lo + k)]]), none, none, none] s3 = .nx ρ' s3 := e4
  refine ⟨s3, mdef_ret ?_⟩
  show sseq b__law_wholes_0 (sseq b__law_wholes_1 (sseq b__law_wholes_2 (sseq b__law_wholes_3 (sseq b__law_wholes_4 b__law_wholes_5)))) [some .pen, none, none, none, none, none, none] s = _
  rw [sseq_nx a0, sseq_nx a1, sseq_nx a2, sseq_nx a3, sseq_nx a4]
  rfl
theorem good (s : Pen) : ∃ s', b_law ρ0 s = .ret (.bl true) s' := by
  obtain ⟨a0, a1, s1, e1, ha, sa0, sa1⟩ := frac_ok s
  obtain ⟨b0, b1, s2, e2, hb, sb0, sb1⟩ := frac_ok s1
  obtain ⟨c0, c1, s3, e3, hc, sc0, sc1⟩ := frac_ok s2
  have z0 : b_law_0 ρ0 s = .nx [none, some .pen, some (.lst [.tup [.int a0, .int a1], .tup [.int b0, .int b1], .tup [.int c0, .int c1]]), none, none, none, none, none, none] s3 := by
    have er : iR1 (aCons (kC (.int 3)) aNil) ρ0 s = .ok [.int 0, .int 1, .int 2] s := rfl
    unfold b_law_0 ρ0 at *
    simp only [sasg, kLc, mbind_ap, er, obind_ok, wipeL, cloop, gnm, nox, kCall, aCons, aNil, mvar, mbind_ret, mret_ap, e1, e2, e3, List.set_cons_succ, List.set_cons_zero, List.getElem?_cons_succ, List.getElem?_cons_zero, List.nil_append, List.cons_append, List.length_nil, List.length_cons, lstD, sof_ok, reduceIte, Nat.reduceAdd, Nat.reduceLeDiff, decide_true, (show decide ((0 : Nat) < 100000) = true from rfl), (show decide ((1 : Nat) < 100000) = true from rfl), (show decide ((2 : Nat) < 100000) = true from rfl)]
  obtain ⟨rows, hrows⟩ : ∃ rows : List D, rows = [.tup [.int a0, .int a1], .tup [.int b0, .int b1], .tup [.int c0, .int c1]] := ⟨_, rfl⟩
  have two : ∀ d ∈ rows, ∀ e ∈ rows, m__law_two [d, e] = mret (.bl true) := by
    intro d hd e he
    have hf : ∀ x ∈ rows, ∃ u v, x = .tup [.int u, .int v] ∧ v ≠ 0 ∧ Sm 167 u ∧ Sm 167 v := by
      intro x hx
      rw [hrows] at hx
      simp only [List.mem_cons, List.not_mem_nil, or_false] at hx
      rcases hx with rfl | rfl | rfl
      · exact ⟨_, _, rfl, ha, sa0, sa1⟩
      · exact ⟨_, _, rfl, hb, sb0, sb1⟩
      · exact ⟨_, _, rfl, hc, sc0, sc1⟩
    obtain ⟨u, v, rfl, hv, su, sv⟩ := hf d hd
    obtain ⟨x, y, rfl, hy, sx, sy⟩ := hf e he
    exact two_eq u v x y hv hy su sv sx sy
  have z1 : ∃ x3 x4, b_law_1 [none, some .pen, some (.lst rows), none, none, none, none, none, none] s3 = .nx [none, some .pen, some (.lst rows), x3, x4, none, none, none, none] s3 := by
    obtain ⟨ρ', e4, x3, x4, rfl⟩ := sloop_all (gm := gnm 3) (mb := lb_law_1) (s := s3) (fun ρ => ∃ x3 x4, ρ = [none, some .pen, some (.lst rows), x3, x4, none, none, none, none]) rows [none, some .pen, some (.lst rows), none, none, none, none, none, none] ⟨_, _, rfl⟩ (fun d hd ρ hρ => by
      obtain ⟨x3, x4, rfl⟩ := hρ
      obtain ⟨ρ2, e5, y4, rfl⟩ := sloop_all (gm := gnm 4) (mb := lb_law_0) (s := s3) (fun ρ => ∃ x4, ρ = [none, some .pen, some (.lst rows), some d, x4, none, none, none, none]) rows [none, some .pen, some (.lst rows), some d, x4, none, none, none, none] ⟨_, rfl⟩ (fun e he ρ hρ => by
        obtain ⟨y4, rfl⟩ := hρ
        have t := two d hd e he
        refine ⟨_, [none, some .pen, some (.lst rows), some d, some e, none, none, none, none], rfl, ?_, _, rfl⟩
        unfold lb_law_0
        clear e1 e2 e3 z0 hrows two
        walk_at "tw")
      exact ⟨_, _, rfl, e5, _, _, rfl⟩)
    exact ⟨x3, x4, e4⟩
  obtain ⟨x3, x4, z1⟩ := z1
  have p1 := ratio_eq a0 a1 ha (Nat.lt_of_lt_of_le (sa1.log (by decide)) (by decide))
  have p2 := ratio_eq b0 b1 hb (Nat.lt_of_lt_of_le (sb1.log (by decide)) (by decide))
  have p3 := ratio_eq c0 c1 hc (Nat.lt_of_lt_of_le (sc1.log (by decide)) (by decide))
  have z2 : b_law_2 [none, some .pen, some (.lst rows), x3, x4, none, none, none, none] s3 = .nx [none, some .pen, some (.lst rows), some (rd (Rat.divInt a0 a1)), x4, some (rd (Rat.divInt b0 b1)), some (rd (Rat.divInt c0 c1)), none, none] s3 := by
    subst hrows
    unfold b_law_2
    simp only [sasg, kLc, iL, asL, mbind_ap, obind_ok, wipeL, cloop, gnm, nox, kCall, aCons, aNil, mvar, kOp, kC, itemD, i20, i21, mbind_ret, mret_ap, p1, p2, p3, List.set_cons_succ, List.set_cons_zero, List.getElem?_cons_succ, List.getElem?_cons_zero, List.nil_append, List.cons_append, List.length_nil, List.length_cons, lstD, sof_ok, reduceIte, Nat.reduceAdd, Nat.reduceLeDiff, decide_true, glm, gcn, gnl, (show decide ((0 : Nat) < 100000) = true from rfl), (show decide ((1 : Nat) < 100000) = true from rfl), (show decide ((2 : Nat) < 100000) = true from rfl)]
  have t3 := three_eq (Rat.divInt a0 a1) (Rat.divInt b0 b1) (Rat.divInt c0 c1) (rs_of sa0 sa1 ha) (rs_of sb0 sb1 hb) (rs_of sc0 sc1 hc)
  have r0 := refused_eq a0
  obtain ⟨s4, w4⟩ := wholes_ok s3
  refine ⟨s4, ?_⟩
  have z3 : b_law_3 [none, some .pen, some (.lst rows), some (rd (Rat.divInt a0 a1)), x4, some (rd (Rat.divInt b0 b1)), some (rd (Rat.divInt c0 c1)), none, none] s3 = .ret (.bl true) s4 := by
    subst hrows
    have i30 : ∀ a b c : D, atI [a, b, c] 0 = some a := fun _ _ _ => rfl
    have i2 := i20 (.int a0) (.int a1)
    unfold b_law_3
    clear two z0 z1 z2 e1 e2 e3 p1 p2 p3 ha hb hc sa0 sa1 sb0 sb1 sc0 sc1
    walk_at "tw"
  show sseq b_law_0 (sseq b_law_1 (sseq b_law_2 b_law_3)) ρ0 s = _
  rw [← hrows] at z0
  rw [sseq_nx z0, sseq_nx z1, sseq_nx z2, z3]
end K01

set_option Elab.async false
set_option linter.all false
set_option maxRecDepth 100000
set_option maxHeartbeats 4000000
set_option autoImplicit false
namespace K01
open PySem L2 PySem.Spec PyProof.Rows Tw
theorem kit_self {K : PySem.W.Frag} {C : Addr} : PySem.W.kitOne K (.ref C) (.ref C) = some true := by
  unfold PySem.W.kitOne
  rw [if_pos (beq_self_eq_true _)]
theorem all_mk {l : PySem.W.OpenLaw} {w : World} {K : PySem.W.Frag} {h : Heap} {mg : Str → Option Value} {fa : Addr} (X : K.In h) (G : h.Ns mainGlobals mg) (hfa : mg "law" = some (.ref fa))
    {f_is_number : Addr} {od_is_number an_is_number : Option Addr} {sl_is_number : Array (Option Value)} {oc_is_number kV_is_number dc_is_number pm_is_number cd_is_number ct_is_number : Value}
    {f_is_whole : Addr} {od_is_whole an_is_whole : Option Addr} {sl_is_whole : Array (Option Value)} {oc_is_whole kV_is_whole dc_is_whole pm_is_whole cd_is_whole ct_is_whole : Value}
    {f_ratio : Addr} {od_ratio an_ratio : Option Addr} {sl_ratio : Array (Option Value)} {oc_ratio kV_ratio dc_ratio pm_ratio cd_ratio ct_ratio : Value}
    {f_compare_ratios : Addr} {od_compare_ratios an_compare_ratios : Option Addr} {sl_compare_ratios : Array (Option Value)} {oc_compare_ratios kV_compare_ratios dc_compare_ratios pm_compare_ratios cd_compare_ratios ct_compare_ratios : Value}
    {f_ratio_sum : Addr} {od_ratio_sum an_ratio_sum : Option Addr} {sl_ratio_sum : Array (Option Value)} {oc_ratio_sum kV_ratio_sum dc_ratio_sum pm_ratio_sum cd_ratio_sum ct_ratio_sum : Value}
    {f_ratio_product : Addr} {od_ratio_product an_ratio_product : Option Addr} {sl_ratio_product : Array (Option Value)} {oc_ratio_product kV_ratio_product dc_ratio_product pm_ratio_product cd_ratio_product ct_ratio_product : Value}
    {f__law_pen : Addr} {od__law_pen an__law_pen : Option Addr} {sl__law_pen : Array (Option Value)} {oc__law_pen kV__law_pen dc__law_pen pm__law_pen cd__law_pen ct__law_pen : Value}
    {f__law_take : Addr} {od__law_take an__law_take : Option Addr} {sl__law_take : Array (Option Value)} {oc__law_take kV__law_take dc__law_take pm__law_take cd__law_take ct__law_take : Value}
    {f__law_of : Addr} {od__law_of an__law_of : Option Addr} {sl__law_of : Array (Option Value)} {oc__law_of kV__law_of dc__law_of pm__law_of cd__law_of ct__law_of : Value}
    {f__law_number : Addr} {od__law_number an__law_number : Option Addr} {sl__law_number : Array (Option Value)} {oc__law_number kV__law_number dc__law_number pm__law_number cd__law_number ct__law_number : Value}
    {f__law_is_number : Addr} {od__law_is_number an__law_is_number : Option Addr} {sl__law_is_number : Array (Option Value)} {oc__law_is_number kV__law_is_number dc__law_is_number pm__law_is_number cd__law_is_number ct__law_is_number : Value}
    {f__law_divisor : Addr} {od__law_divisor an__law_divisor : Option Addr} {sl__law_divisor : Array (Option Value)} {oc__law_divisor kV__law_divisor dc__law_divisor pm__law_divisor cd__law_divisor ct__law_divisor : Value}
    {f__law_right : Addr} {od__law_right an__law_right : Option Addr} {sl__law_right : Array (Option Value)} {oc__law_right kV__law_right dc__law_right pm__law_right cd__law_right ct__law_right : Value}
    {f__law_fraction : Addr} {od__law_fraction an__law_fraction : Option Addr} {sl__law_fraction : Array (Option Value)} {oc__law_fraction kV__law_fraction dc__law_fraction pm__law_fraction cd__law_fraction ct__law_fraction : Value}
    {f__law_sign : Addr} {od__law_sign an__law_sign : Option Addr} {sl__law_sign : Array (Option Value)} {oc__law_sign kV__law_sign dc__law_sign pm__law_sign cd__law_sign ct__law_sign : Value}
    {f__law_two : Addr} {od__law_two an__law_two : Option Addr} {sl__law_two : Array (Option Value)} {oc__law_two kV__law_two dc__law_two pm__law_two cd__law_two ct__law_two : Value}
    {f__law_three : Addr} {od__law_three an__law_three : Option Addr} {sl__law_three : Array (Option Value)} {oc__law_three kV__law_three dc__law_three pm__law_three cd__law_three ct__law_three : Value}
    {f__law_refused : Addr} {od__law_refused an__law_refused : Option Addr} {sl__law_refused : Array (Option Value)} {oc__law_refused kV__law_refused dc__law_refused pm__law_refused cd__law_refused ct__law_refused : Value}
    {f__law_wholes : Addr} {od__law_wholes an__law_wholes : Option Addr} {sl__law_wholes : Array (Option Value)} {oc__law_wholes kV__law_wholes dc__law_wholes pm__law_wholes cd__law_wholes ct__law_wholes : Value}
    {f_law : Addr} {od_law an_law : Option Addr} {sl_law : Array (Option Value)} {oc_law kV_law dc_law pm_law cd_law ct_law : Value}
    {C_BridgeError : Addr}
    {C_BadRatio : Addr}
    {I_BadRatio : Addr} {odi_BadRatio ani_BadRatio : Option Addr} {sli_BadRatio : Array (Option Value)} {oci_BadRatio kVi_BadRatio dci_BadRatio pmi_BadRatio cdi_BadRatio cti_BadRatio : Value}
    {nm_BadRatio qn_BadRatio : Str} {N_BadRatio : Addr} {bs_BadRatio bm_BadRatio : List Value} {sn_BadRatio : List Str} {sub_BadRatio : List Value} {ab_BadRatio : Bool} {col_BadRatio : Option Bool} {dd_BadRatio : Option Addr} {k0_BadRatio k1_BadRatio k2_BadRatio k3_BadRatio k5_BadRatio : Option Value}
    (a_is_number : PySem.W.nsIn K mainGlobals "is_number" = some (some (.ref f_is_number)))
    (l_is_number : K.lookup f_is_number = some ⟨oc_is_number, od_is_number, .func (PySem.W.fnOf "is_number" "is_number" (defArgs s_is_number) (defBody s_is_number) (defScope s_is_number) .none kV_is_number dc_is_number pm_is_number an_is_number cd_is_number ct_is_number), sl_is_number⟩)
    (c_is_number : PySem.W.codeIn K cd_is_number "is_number" = true)
    (k_is_number : PySem.W.keepIn K (.ref f_is_number) = true)
    (a_is_whole : PySem.W.nsIn K mainGlobals "is_whole" = some (some (.ref f_is_whole)))
    (l_is_whole : K.lookup f_is_whole = some ⟨oc_is_whole, od_is_whole, .func (PySem.W.fnOf "is_whole" "is_whole" (defArgs s_is_whole) (defBody s_is_whole) (defScope s_is_whole) .none kV_is_whole dc_is_whole pm_is_whole an_is_whole cd_is_whole ct_is_whole), sl_is_whole⟩)
    (c_is_whole : PySem.W.codeIn K cd_is_whole "is_whole" = true)
    (k_is_whole : PySem.W.keepIn K (.ref f_is_whole) = true)
    (a_ratio : PySem.W.nsIn K mainGlobals "ratio" = some (some (.ref f_ratio)))
    (l_ratio : K.lookup f_ratio = some ⟨oc_ratio, od_ratio, .func (PySem.W.fnOf "ratio" "ratio" (defArgs s_ratio) (defBody s_ratio) (defScope s_ratio) .none kV_ratio dc_ratio pm_ratio an_ratio cd_ratio ct_ratio), sl_ratio⟩)
    (c_ratio : PySem.W.codeIn K cd_ratio "ratio" = true)
    (k_ratio : PySem.W.keepIn K (.ref f_ratio) = true)
    (a_compare_ratios : PySem.W.nsIn K mainGlobals "compare_ratios" = some (some (.ref f_compare_ratios)))
    (l_compare_ratios : K.lookup f_compare_ratios = some ⟨oc_compare_ratios, od_compare_ratios, .func (PySem.W.fnOf "compare_ratios" "compare_ratios" (defArgs s_compare_ratios) (defBody s_compare_ratios) (defScope s_compare_ratios) .none kV_compare_ratios dc_compare_ratios pm_compare_ratios an_compare_ratios cd_compare_ratios ct_compare_ratios), sl_compare_ratios⟩)
    (c_compare_ratios : PySem.W.codeIn K cd_compare_ratios "compare_ratios" = true)
    (k_compare_ratios : PySem.W.keepIn K (.ref f_compare_ratios) = true)
    (a_ratio_sum : PySem.W.nsIn K mainGlobals "ratio_sum" = some (some (.ref f_ratio_sum)))
    (l_ratio_sum : K.lookup f_ratio_sum = some ⟨oc_ratio_sum, od_ratio_sum, .func (PySem.W.fnOf "ratio_sum" "ratio_sum" (defArgs s_ratio_sum) (defBody s_ratio_sum) (defScope s_ratio_sum) .none kV_ratio_sum dc_ratio_sum pm_ratio_sum an_ratio_sum cd_ratio_sum ct_ratio_sum), sl_ratio_sum⟩)
    (c_ratio_sum : PySem.W.codeIn K cd_ratio_sum "ratio_sum" = true)
    (k_ratio_sum : PySem.W.keepIn K (.ref f_ratio_sum) = true)
    (a_ratio_product : PySem.W.nsIn K mainGlobals "ratio_product" = some (some (.ref f_ratio_product)))
    (l_ratio_product : K.lookup f_ratio_product = some ⟨oc_ratio_product, od_ratio_product, .func (PySem.W.fnOf "ratio_product" "ratio_product" (defArgs s_ratio_product) (defBody s_ratio_product) (defScope s_ratio_product) .none kV_ratio_product dc_ratio_product pm_ratio_product an_ratio_product cd_ratio_product ct_ratio_product), sl_ratio_product⟩)
    (c_ratio_product : PySem.W.codeIn K cd_ratio_product "ratio_product" = true)
    (k_ratio_product : PySem.W.keepIn K (.ref f_ratio_product) = true)
    (a__law_pen : PySem.W.nsIn K mainGlobals "_law_pen" = some (some (.ref f__law_pen)))
    (l__law_pen : K.lookup f__law_pen = some ⟨oc__law_pen, od__law_pen, .func (PySem.W.fnOf "_law_pen" "_law_pen" (defArgs s__law_pen) (defBody s__law_pen) (defScope s__law_pen) .none kV__law_pen dc__law_pen pm__law_pen an__law_pen cd__law_pen ct__law_pen), sl__law_pen⟩)
    (c__law_pen : PySem.W.codeIn K cd__law_pen "_law_pen" = true)
    (k__law_pen : PySem.W.keepIn K (.ref f__law_pen) = true)
    (a__law_take : PySem.W.nsIn K mainGlobals "_law_take" = some (some (.ref f__law_take)))
    (l__law_take : K.lookup f__law_take = some ⟨oc__law_take, od__law_take, .func (PySem.W.fnOf "_law_take" "_law_take" (defArgs s__law_take) (defBody s__law_take) (defScope s__law_take) .none kV__law_take dc__law_take pm__law_take an__law_take cd__law_take ct__law_take), sl__law_take⟩)
    (c__law_take : PySem.W.codeIn K cd__law_take "_law_take" = true)
    (k__law_take : PySem.W.keepIn K (.ref f__law_take) = true)
    (a__law_of : PySem.W.nsIn K mainGlobals "_law_of" = some (some (.ref f__law_of)))
    (l__law_of : K.lookup f__law_of = some ⟨oc__law_of, od__law_of, .func (PySem.W.fnOf "_law_of" "_law_of" (defArgs s__law_of) (defBody s__law_of) (defScope s__law_of) .none kV__law_of dc__law_of pm__law_of an__law_of cd__law_of ct__law_of), sl__law_of⟩)
    (c__law_of : PySem.W.codeIn K cd__law_of "_law_of" = true)
    (k__law_of : PySem.W.keepIn K (.ref f__law_of) = true)
    (a__law_number : PySem.W.nsIn K mainGlobals "_law_number" = some (some (.ref f__law_number)))
    (l__law_number : K.lookup f__law_number = some ⟨oc__law_number, od__law_number, .func (PySem.W.fnOf "_law_number" "_law_number" (defArgs s__law_number) (defBody s__law_number) (defScope s__law_number) .none kV__law_number dc__law_number pm__law_number an__law_number cd__law_number ct__law_number), sl__law_number⟩)
    (c__law_number : PySem.W.codeIn K cd__law_number "_law_number" = true)
    (k__law_number : PySem.W.keepIn K (.ref f__law_number) = true)
    (a__law_is_number : PySem.W.nsIn K mainGlobals "_law_is_number" = some (some (.ref f__law_is_number)))
    (l__law_is_number : K.lookup f__law_is_number = some ⟨oc__law_is_number, od__law_is_number, .func (PySem.W.fnOf "_law_is_number" "_law_is_number" (defArgs s__law_is_number) (defBody s__law_is_number) (defScope s__law_is_number) .none kV__law_is_number dc__law_is_number pm__law_is_number an__law_is_number cd__law_is_number ct__law_is_number), sl__law_is_number⟩)
    (c__law_is_number : PySem.W.codeIn K cd__law_is_number "_law_is_number" = true)
    (k__law_is_number : PySem.W.keepIn K (.ref f__law_is_number) = true)
    (a__law_divisor : PySem.W.nsIn K mainGlobals "_law_divisor" = some (some (.ref f__law_divisor)))
    (l__law_divisor : K.lookup f__law_divisor = some ⟨oc__law_divisor, od__law_divisor, .func (PySem.W.fnOf "_law_divisor" "_law_divisor" (defArgs s__law_divisor) (defBody s__law_divisor) (defScope s__law_divisor) .none kV__law_divisor dc__law_divisor pm__law_divisor an__law_divisor cd__law_divisor ct__law_divisor), sl__law_divisor⟩)
    (c__law_divisor : PySem.W.codeIn K cd__law_divisor "_law_divisor" = true)
    (k__law_divisor : PySem.W.keepIn K (.ref f__law_divisor) = true)
    (a__law_right : PySem.W.nsIn K mainGlobals "_law_right" = some (some (.ref f__law_right)))
    (l__law_right : K.lookup f__law_right = some ⟨oc__law_right, od__law_right, .func (PySem.W.fnOf "_law_right" "_law_right" (defArgs s__law_right) (defBody s__law_right) (defScope s__law_right) .none kV__law_right dc__law_right pm__law_right an__law_right cd__law_right ct__law_right), sl__law_right⟩)
    (c__law_right : PySem.W.codeIn K cd__law_right "_law_right" = true)
    (k__law_right : PySem.W.keepIn K (.ref f__law_right) = true)
    (a__law_fraction : PySem.W.nsIn K mainGlobals "_law_fraction" = some (some (.ref f__law_fraction)))
    (l__law_fraction : K.lookup f__law_fraction = some ⟨oc__law_fraction, od__law_fraction, .func (PySem.W.fnOf "_law_fraction" "_law_fraction" (defArgs s__law_fraction) (defBody s__law_fraction) (defScope s__law_fraction) .none kV__law_fraction dc__law_fraction pm__law_fraction an__law_fraction cd__law_fraction ct__law_fraction), sl__law_fraction⟩)
    (c__law_fraction : PySem.W.codeIn K cd__law_fraction "_law_fraction" = true)
    (k__law_fraction : PySem.W.keepIn K (.ref f__law_fraction) = true)
    (a__law_sign : PySem.W.nsIn K mainGlobals "_law_sign" = some (some (.ref f__law_sign)))
    (l__law_sign : K.lookup f__law_sign = some ⟨oc__law_sign, od__law_sign, .func (PySem.W.fnOf "_law_sign" "_law_sign" (defArgs s__law_sign) (defBody s__law_sign) (defScope s__law_sign) .none kV__law_sign dc__law_sign pm__law_sign an__law_sign cd__law_sign ct__law_sign), sl__law_sign⟩)
    (c__law_sign : PySem.W.codeIn K cd__law_sign "_law_sign" = true)
    (k__law_sign : PySem.W.keepIn K (.ref f__law_sign) = true)
    (a__law_two : PySem.W.nsIn K mainGlobals "_law_two" = some (some (.ref f__law_two)))
    (l__law_two : K.lookup f__law_two = some ⟨oc__law_two, od__law_two, .func (PySem.W.fnOf "_law_two" "_law_two" (defArgs s__law_two) (defBody s__law_two) (defScope s__law_two) .none kV__law_two dc__law_two pm__law_two an__law_two cd__law_two ct__law_two), sl__law_two⟩)
    (c__law_two : PySem.W.codeIn K cd__law_two "_law_two" = true)
    (k__law_two : PySem.W.keepIn K (.ref f__law_two) = true)
    (a__law_three : PySem.W.nsIn K mainGlobals "_law_three" = some (some (.ref f__law_three)))
    (l__law_three : K.lookup f__law_three = some ⟨oc__law_three, od__law_three, .func (PySem.W.fnOf "_law_three" "_law_three" (defArgs s__law_three) (defBody s__law_three) (defScope s__law_three) .none kV__law_three dc__law_three pm__law_three an__law_three cd__law_three ct__law_three), sl__law_three⟩)
    (c__law_three : PySem.W.codeIn K cd__law_three "_law_three" = true)
    (k__law_three : PySem.W.keepIn K (.ref f__law_three) = true)
    (a__law_refused : PySem.W.nsIn K mainGlobals "_law_refused" = some (some (.ref f__law_refused)))
    (l__law_refused : K.lookup f__law_refused = some ⟨oc__law_refused, od__law_refused, .func (PySem.W.fnOf "_law_refused" "_law_refused" (defArgs s__law_refused) (defBody s__law_refused) (defScope s__law_refused) .none kV__law_refused dc__law_refused pm__law_refused an__law_refused cd__law_refused ct__law_refused), sl__law_refused⟩)
    (c__law_refused : PySem.W.codeIn K cd__law_refused "_law_refused" = true)
    (k__law_refused : PySem.W.keepIn K (.ref f__law_refused) = true)
    (a__law_wholes : PySem.W.nsIn K mainGlobals "_law_wholes" = some (some (.ref f__law_wholes)))
    (l__law_wholes : K.lookup f__law_wholes = some ⟨oc__law_wholes, od__law_wholes, .func (PySem.W.fnOf "_law_wholes" "_law_wholes" (defArgs s__law_wholes) (defBody s__law_wholes) (defScope s__law_wholes) .none kV__law_wholes dc__law_wholes pm__law_wholes an__law_wholes cd__law_wholes ct__law_wholes), sl__law_wholes⟩)
    (c__law_wholes : PySem.W.codeIn K cd__law_wholes "_law_wholes" = true)
    (k__law_wholes : PySem.W.keepIn K (.ref f__law_wholes) = true)
    (a_law : PySem.W.nsIn K mainGlobals "law" = some (some (.ref f_law)))
    (l_law : K.lookup f_law = some ⟨oc_law, od_law, .func (PySem.W.fnOf "law" "law" (defArgs s_law) (defBody s_law) (defScope s_law) .none kV_law dc_law pm_law an_law cd_law ct_law), sl_law⟩)
    (c_law : PySem.W.codeIn K cd_law "law" = true)
    (k_law : PySem.W.keepIn K (.ref f_law) = true)
    (ac_BridgeError : PySem.W.nsIn K mainGlobals "BridgeError" = some (some (.ref C_BridgeError)))
    (ac_BadRatio : PySem.W.nsIn K mainGlobals "BadRatio" = some (some (.ref C_BadRatio)))
    (x1_BadRatio : K.lookup C_BadRatio = some (excClassObj nm_BadRatio qn_BadRatio C_BadRatio N_BadRatio bs_BadRatio bm_BadRatio true sn_BadRatio sub_BadRatio ab_BadRatio col_BadRatio dd_BadRatio k0_BadRatio k1_BadRatio k2_BadRatio k3_BadRatio k5_BadRatio "ValueError.__new__"))
    (x2_BadRatio : PySem.HandSPX.refsVE bm_BadRatio = true)
    (x3_BadRatio : PySem.W.findIn K (.ref C_BadRatio) "__setattr__" = some (some (.builtin "object.__setattr__")))
    (x4_BadRatio : PySem.W.subIn K (.ref C_BadRatio) (.type "BaseException") = some true)
    (x5_BadRatio : PySem.W.typeIn K (.ref C_BadRatio) = some (.type "type"))
    (x6_BadRatio : PySem.W.keepIn K (.ref C_BadRatio) = true)
    (x7_BadRatio : PySem.W.findIn K (.ref C_BadRatio) "__init__" = some (some (.ref I_BadRatio)))
    (x8_BadRatio : PySem.W.typeIn K (.ref I_BadRatio) = some (.type "function"))
    (li_BadRatio : K.lookup I_BadRatio = some ⟨oci_BadRatio, odi_BadRatio, .func (PySem.W.fnOf "__init__" "BadRatio.__init__" (defArgs si_BadRatio) (defBody si_BadRatio) (defScope si_BadRatio) .none kVi_BadRatio dci_BadRatio pmi_BadRatio ani_BadRatio cdi_BadRatio cti_BadRatio), sli_BadRatio⟩)
    (ci_BadRatio : PySem.W.codeIn K cdi_BadRatio "BadRatio.__init__" = true)
    (ki_BadRatio : PySem.W.keepIn K (.ref I_BadRatio) = true)
    (e1_BadRatio : PySem.W.subIn K (.ref C_BadRatio) (.type "BaseException") = some true)
    (e2_BadRatio : PySem.W.hasDictIn K C_BadRatio = true)
    (e3_BadRatio : PySem.W.typeIn K (.ref C_BadRatio) = some (.type "type"))
    (es_BadRatio_BadRatio : PySem.W.subIn K (.ref C_BadRatio) (.ref C_BadRatio) = some true)
    (e1_BridgeError : PySem.W.subIn K (.ref C_BridgeError) (.type "BaseException") = some true)
    (e2_BridgeError : PySem.W.hasDictIn K C_BridgeError = true)
    (e3_BridgeError : PySem.W.typeIn K (.ref C_BridgeError) = some (.type "type"))
    (es_BadRatio_BridgeError : PySem.W.subIn K (.ref C_BadRatio) (.ref C_BridgeError) = some true)
    (y1_BadRatio : PySem.W.findIn K (.ref C_BadRatio) "__getattribute__" = some (some (.builtin "BaseException.__getattribute__")))
    (y2_BadRatio : PySem.W.findIn K (.ref C_BadRatio) "__getattr__" = some none)
    (y3_BadRatio : PySem.W.subIn K (.ref C_BadRatio) (.type "BaseException") = some true)
    (y4_BadRatio : PySem.W.hasDictIn K C_BadRatio = true)
    (y5_BadRatio : PySem.W.findIn K (.ref C_BadRatio) "__class__" = some (some (.builtin "object.__class__")))
    (y6_BadRatio : PySem.W.specialIn K (.builtin "object.__class__") "__get__" = some (some (.builtin "getset_descriptor.__get__")))
    (y7_BadRatio : PySem.W.takesIn K (.builtin "object.__class__") = some true)
    (y8_BadRatio : PySem.W.mroIn K C_BadRatio (.type "object") = some true)
    (z_abs : PySem.W.nsIn K mainGlobals "abs" = some none)
    (z_bool : PySem.W.nsIn K mainGlobals "bool" = some none)
    (z_int : PySem.W.nsIn K mainGlobals "int" = some none)
    (z_isinstance : PySem.W.nsIn K mainGlobals "isinstance" = some none)
    (z_len : PySem.W.nsIn K mainGlobals "len" = some none)
    (z_list : PySem.W.nsIn K mainGlobals "list" = some none)
    (z_range : PySem.W.nsIn K mainGlobals "range" = some none)
    (z_str : PySem.W.nsIn K mainGlobals "str" = some none)
    (z_tuple : PySem.W.nsIn K mainGlobals "tuple" = some none)
    (zi_gcd : PySem.W.nsIn K mainGlobals "gcd" = some (some (.builtin "math.gcd"))) :
    ∃ fd : FuncData, (∀ (s : Shared) (v : Value), BindsTo s fd ⟨[v], []⟩ [("_law_script", v)]) ∧ ∀ base : Heap, K.In base → base.Ns mainGlobals mg → FnOk l.prog w K mg base (L2.CX l.prog w) 6 fa fd ["_law_script"] (spLaw K) := by
  have e : fa = f_law := by
    have z := hfa.symm.trans (PySem.W.mg_of X G a_law)
    cases z
    rfl
  rw [e]
  have T : Txt K mg ⟨f_is_number, (PySem.W.fnOf "is_number" "is_number" (defArgs s_is_number) (defBody s_is_number) (defScope s_is_number) .none kV_is_number dc_is_number pm_is_number an_is_number cd_is_number ct_is_number), f_is_whole, (PySem.W.fnOf "is_whole" "is_whole" (defArgs s_is_whole) (defBody s_is_whole) (defScope s_is_whole) .none kV_is_whole dc_is_whole pm_is_whole an_is_whole cd_is_whole ct_is_whole), f_ratio, (PySem.W.fnOf "ratio" "ratio" (defArgs s_ratio) (defBody s_ratio) (defScope s_ratio) .none kV_ratio dc_ratio pm_ratio an_ratio cd_ratio ct_ratio), f_compare_ratios, (PySem.W.fnOf "compare_ratios" "compare_ratios" (defArgs s_compare_ratios) (defBody s_compare_ratios) (defScope s_compare_ratios) .none kV_compare_ratios dc_compare_ratios pm_compare_ratios an_compare_ratios cd_compare_ratios ct_compare_ratios), f_ratio_sum, (PySem.W.fnOf "ratio_sum" "ratio_sum" (defArgs s_ratio_sum) (defBody s_ratio_sum) (defScope s_ratio_sum) .none kV_ratio_sum dc_ratio_sum pm_ratio_sum an_ratio_sum cd_ratio_sum ct_ratio_sum), f_ratio_product, (PySem.W.fnOf "ratio_product" "ratio_product" (defArgs s_ratio_product) (defBody s_ratio_product) (defScope s_ratio_product) .none kV_ratio_product dc_ratio_product pm_ratio_product an_ratio_product cd_ratio_product ct_ratio_product), f__law_pen, (PySem.W.fnOf "_law_pen" "_law_pen" (defArgs s__law_pen) (defBody s__law_pen) (defScope s__law_pen) .none kV__law_pen dc__law_pen pm__law_pen an__law_pen cd__law_pen ct__law_pen), f__law_take, (PySem.W.fnOf "_law_take" "_law_take" (defArgs s__law_take) (defBody s__law_take) (defScope s__law_take) .none kV__law_take dc__law_take pm__law_take an__law_take cd__law_take ct__law_take), f__law_of, (PySem.W.fnOf "_law_of" "_law_of" (defArgs s__law_of) (defBody s__law_of) (defScope s__law_of) .none kV__law_of dc__law_of pm__law_of an__law_of cd__law_of ct__law_of), f__law_number, (PySem.W.fnOf "_law_number" "_law_number" (defArgs s__law_number) (defBody s__law_number) (defScope s__law_number) .none kV__law_number dc__law_number pm__law_number an__law_number cd__law_number ct__law_number), f__law_is_number, (PySem.W.fnOf "_law_is_number" "_law_is_number" (defArgs s__law_is_number) (defBody s__law_is_number) (defScope s__law_is_number) .none kV__law_is_number dc__law_is_number pm__law_is_number an__law_is_number cd__law_is_number ct__law_is_number), f__law_divisor, (PySem.W.fnOf "_law_divisor" "_law_divisor" (defArgs s__law_divisor) (defBody s__law_divisor) (defScope s__law_divisor) .none kV__law_divisor dc__law_divisor pm__law_divisor an__law_divisor cd__law_divisor ct__law_divisor), f__law_right, (PySem.W.fnOf "_law_right" "_law_right" (defArgs s__law_right) (defBody s__law_right) (defScope s__law_right) .none kV__law_right dc__law_right pm__law_right an__law_right cd__law_right ct__law_right), f__law_fraction, (PySem.W.fnOf "_law_fraction" "_law_fraction" (defArgs s__law_fraction) (defBody s__law_fraction) (defScope s__law_fraction) .none kV__law_fraction dc__law_fraction pm__law_fraction an__law_fraction cd__law_fraction ct__law_fraction), f__law_sign, (PySem.W.fnOf "_law_sign" "_law_sign" (defArgs s__law_sign) (defBody s__law_sign) (defScope s__law_sign) .none kV__law_sign dc__law_sign pm__law_sign an__law_sign cd__law_sign ct__law_sign), f__law_two, (PySem.W.fnOf "_law_two" "_law_two" (defArgs s__law_two) (defBody s__law_two) (defScope s__law_two) .none kV__law_two dc__law_two pm__law_two an__law_two cd__law_two ct__law_two), f__law_three, (PySem.W.fnOf "_law_three" "_law_three" (defArgs s__law_three) (defBody s__law_three) (defScope s__law_three) .none kV__law_three dc__law_three pm__law_three an__law_three cd__law_three ct__law_three), f__law_refused, (PySem.W.fnOf "_law_refused" "_law_refused" (defArgs s__law_refused) (defBody s__law_refused) (defScope s__law_refused) .none kV__law_refused dc__law_refused pm__law_refused an__law_refused cd__law_refused ct__law_refused), f__law_wholes, (PySem.W.fnOf "_law_wholes" "_law_wholes" (defArgs s__law_wholes) (defBody s__law_wholes) (defScope s__law_wholes) .none kV__law_wholes dc__law_wholes pm__law_wholes an__law_wholes cd__law_wholes ct__law_wholes), f_law, (PySem.W.fnOf "law" "law" (defArgs s_law) (defBody s_law) (defScope s_law) .none kV_law dc_law pm_law an_law cd_law ct_law), C_BridgeError, C_BadRatio, I_BadRatio, (PySem.W.fnOf "__init__" "BadRatio.__init__" (defArgs si_BadRatio) (defBody si_BadRatio) (defScope si_BadRatio) .none kVi_BadRatio dci_BadRatio pmi_BadRatio ani_BadRatio cdi_BadRatio cti_BadRatio)⟩ := {
    t_is_number := ⟨fun_mk (st := s_is_number) l_is_number c_is_number k_is_number, PySem.W.mg_of X G a_is_number, (fun_mk (st := s_is_number) l_is_number c_is_number k_is_number).binds (ps := ["thing"]) fun _ _ _ _ _ _ us hl => match us, hl with | [_], _ => rfl⟩
    t_is_whole := ⟨fun_mk (st := s_is_whole) l_is_whole c_is_whole k_is_whole, PySem.W.mg_of X G a_is_whole, (fun_mk (st := s_is_whole) l_is_whole c_is_whole k_is_whole).binds (ps := ["thing", "low", "high"]) fun _ _ _ _ _ _ us hl => match us, hl with | [_, _, _], _ => rfl⟩
    t_ratio := ⟨fun_mk (st := s_ratio) l_ratio c_ratio k_ratio, PySem.W.mg_of X G a_ratio, (fun_mk (st := s_ratio) l_ratio c_ratio k_ratio).binds (ps := ["top", "bottom"]) fun _ _ _ _ _ _ us hl => match us, hl with | [_, _], _ => rfl⟩
    t_compare_ratios := ⟨fun_mk (st := s_compare_ratios) l_compare_ratios c_compare_ratios k_compare_ratios, PySem.W.mg_of X G a_compare_ratios, (fun_mk (st := s_compare_ratios) l_compare_ratios c_compare_ratios k_compare_ratios).binds (ps := ["one", "other"]) fun _ _ _ _ _ _ us hl => match us, hl with | [_, _], _ => rfl⟩
    t_ratio_sum := ⟨fun_mk (st := s_ratio_sum) l_ratio_sum c_ratio_sum k_ratio_sum, PySem.W.mg_of X G a_ratio_sum, (fun_mk (st := s_ratio_sum) l_ratio_sum c_ratio_sum k_ratio_sum).binds (ps := ["one", "other"]) fun _ _ _ _ _ _ us hl => match us, hl with | [_, _], _ => rfl⟩
    t_ratio_product := ⟨fun_mk (st := s_ratio_product) l_ratio_product c_ratio_product k_ratio_product, PySem.W.mg_of X G a_ratio_product, (fun_mk (st := s_ratio_product) l_ratio_product c_ratio_product k_ratio_product).binds (ps := ["one", "other"]) fun _ _ _ _ _ _ us hl => match us, hl with | [_, _], _ => rfl⟩
    t__law_pen := ⟨fun_mk (st := s__law_pen) l__law_pen c__law_pen k__law_pen, PySem.W.mg_of X G a__law_pen, (fun_mk (st := s__law_pen) l__law_pen c__law_pen k__law_pen).binds (ps := ["_law_script"]) fun _ _ _ _ _ _ us hl => match us, hl with | [_], _ => rfl⟩
    t__law_take := ⟨fun_mk (st := s__law_take) l__law_take c__law_take k__law_take, PySem.W.mg_of X G a__law_take, (fun_mk (st := s__law_take) l__law_take c__law_take k__law_take).binds (ps := ["_law_pen_here", "_law_many"]) fun _ _ _ _ _ _ us hl => match us, hl with | [_, _], _ => rfl⟩
    t__law_of := ⟨fun_mk (st := s__law_of) l__law_of c__law_of k__law_of, PySem.W.mg_of X G a__law_of, (fun_mk (st := s__law_of) l__law_of c__law_of k__law_of).binds (ps := ["_law_pen_here", "_law_some"]) fun _ _ _ _ _ _ us hl => match us, hl with | [_, _], _ => rfl⟩
    t__law_number := ⟨fun_mk (st := s__law_number) l__law_number c__law_number k__law_number, PySem.W.mg_of X G a__law_number, (fun_mk (st := s__law_number) l__law_number c__law_number k__law_number).binds (ps := ["_law_pen_here"]) fun _ _ _ _ _ _ us hl => match us, hl with | [_], _ => rfl⟩
    t__law_is_number := ⟨fun_mk (st := s__law_is_number) l__law_is_number c__law_is_number k__law_is_number, PySem.W.mg_of X G a__law_is_number, (fun_mk (st := s__law_is_number) l__law_is_number c__law_is_number k__law_is_number).binds (ps := ["_law_thing"]) fun _ _ _ _ _ _ us hl => match us, hl with | [_], _ => rfl⟩
    t__law_divisor := ⟨fun_mk (st := s__law_divisor) l__law_divisor c__law_divisor k__law_divisor, PySem.W.mg_of X G a__law_divisor, (fun_mk (st := s__law_divisor) l__law_divisor c__law_divisor k__law_divisor).binds (ps := ["_law_one", "_law_other"]) fun _ _ _ _ _ _ us hl => match us, hl with | [_, _], _ => rfl⟩
    t__law_right := ⟨fun_mk (st := s__law_right) l__law_right c__law_right k__law_right, PySem.W.mg_of X G a__law_right, (fun_mk (st := s__law_right) l__law_right c__law_right k__law_right).binds (ps := ["_law_thing", "_law_top", "_law_bottom"]) fun _ _ _ _ _ _ us hl => match us, hl with | [_, _, _], _ => rfl⟩
    t__law_fraction := ⟨fun_mk (st := s__law_fraction) l__law_fraction c__law_fraction k__law_fraction, PySem.W.mg_of X G a__law_fraction, (fun_mk (st := s__law_fraction) l__law_fraction c__law_fraction k__law_fraction).binds (ps := ["_law_pen_here"]) fun _ _ _ _ _ _ us hl => match us, hl with | [_], _ => rfl⟩
    t__law_sign := ⟨fun_mk (st := s__law_sign) l__law_sign c__law_sign k__law_sign, PySem.W.mg_of X G a__law_sign, (fun_mk (st := s__law_sign) l__law_sign c__law_sign k__law_sign).binds (ps := ["_law_number_here"]) fun _ _ _ _ _ _ us hl => match us, hl with | [_], _ => rfl⟩
    t__law_two := ⟨fun_mk (st := s__law_two) l__law_two c__law_two k__law_two, PySem.W.mg_of X G a__law_two, (fun_mk (st := s__law_two) l__law_two c__law_two k__law_two).binds (ps := ["_law_one", "_law_other"]) fun _ _ _ _ _ _ us hl => match us, hl with | [_, _], _ => rfl⟩
    t__law_three := ⟨fun_mk (st := s__law_three) l__law_three c__law_three k__law_three, PySem.W.mg_of X G a__law_three, (fun_mk (st := s__law_three) l__law_three c__law_three k__law_three).binds (ps := ["_law_one", "_law_two_here", "_law_three_here"]) fun _ _ _ _ _ _ us hl => match us, hl with | [_, _, _], _ => rfl⟩
    t__law_refused := ⟨fun_mk (st := s__law_refused) l__law_refused c__law_refused k__law_refused, PySem.W.mg_of X G a__law_refused, (fun_mk (st := s__law_refused) l__law_refused c__law_refused k__law_refused).binds (ps := ["_law_top"]) fun _ _ _ _ _ _ us hl => match us, hl with | [_], _ => rfl⟩
    t__law_wholes := ⟨fun_mk (st := s__law_wholes) l__law_wholes c__law_wholes k__law_wholes, PySem.W.mg_of X G a__law_wholes, (fun_mk (st := s__law_wholes) l__law_wholes c__law_wholes k__law_wholes).binds (ps := ["_law_pen_here"]) fun _ _ _ _ _ _ us hl => match us, hl with | [_], _ => rfl⟩
    t_law := ⟨fun_mk (st := s_law) l_law c_law k_law, PySem.W.mg_of X G a_law, (fun_mk (st := s_law) l_law c_law k_law).binds (ps := ["_law_script"]) fun _ _ _ _ _ _ us hl => match us, hl with | [_], _ => rfl⟩
    m_BridgeError := PySem.W.mg_of X G ac_BridgeError
    m_BadRatio := PySem.W.mg_of X G ac_BadRatio
    e_BadRatio := ⟨⟨⟨_, _, _, _, _, _, _, _, _, _, _, _, _, _, _, x1_BadRatio, x2_BadRatio⟩, x3_BadRatio, x4_BadRatio, x5_BadRatio, x6_BadRatio⟩, x7_BadRatio, x8_BadRatio, fun_mk (st := si_BadRatio) li_BadRatio ci_BadRatio ki_BadRatio, (fun_mk (st := si_BadRatio) li_BadRatio ci_BadRatio ki_BadRatio).binds (ps := ["self"]) fun _ _ _ _ _ _ us hl => match us, hl with | [_], _ => rfl, PySem.W.mg_of X G ac_BadRatio⟩
    n_abs := PySem.W.mg_none_of X G z_abs
    n_bool := PySem.W.mg_none_of X G z_bool
    n_int := PySem.W.mg_none_of X G z_int
    n_isinstance := PySem.W.mg_none_of X G z_isinstance
    n_len := PySem.W.mg_none_of X G z_len
    n_list := PySem.W.mg_none_of X G z_list
    n_range := PySem.W.mg_none_of X G z_range
    n_str := PySem.W.mg_none_of X G z_str
    n_tuple := PySem.W.mg_none_of X G z_tuple
    g_gcd := PySem.W.mg_of X G zi_gcd
    x_rr := PySem.W.exm_ref e1_BadRatio e2_BadRatio e3_BadRatio es_BadRatio_BadRatio
    x_rb := PySem.W.exm_ref e1_BridgeError e2_BridgeError e3_BridgeError es_BadRatio_BridgeError
    x_ec := ⟨y1_BadRatio, y2_BadRatio, y3_BadRatio, y4_BadRatio, y5_BadRatio, y6_BadRatio, y7_BadRatio, y8_BadRatio⟩
    x_ki := kit_self }
  exact ⟨PySem.W.fnOf "law" "law" (defArgs s_law) (defBody s_law) (defScope s_law) .none kV_law dc_law pm_law an_law cd_law ct_law, fun s v => .of_eq rfl, fun base _ _ => ok_law good T⟩
theorem no_way (P : Program) (w : World) (H : Hp) (s : Shared) (e : Value) (s' : Shared) : L2.CX P w [] H s (fun _ _ _ => False) e s' → False := fun z => by
  obtain ⟨_, _, _, _, _, _, _, _, _, _, _, _, q⟩ := z
  exact q
theorem walk {l : PySem.W.OpenLaw} {q : Program} {loose : List Str} {XP : (Str → Option Value) → Heap → Prop} {YP : World → Heap → Prop} {d : DefRec} {K : Params → PySem.W.Frag} (hn : l.most = some 63) (hdf : d.params.defaults = [])
    (hY : ∀ (w : World) (h : Heap), YP w h → (K w.params).In h)
    (F : ∀ (w : World) (mg : Str → Option Value) (fa : Addr) (h : Heap), (K w.params).In h → h.Ns mainGlobals mg → mg d.name = some (.ref fa) →
      ∃ fd : FuncData, (∀ (s : Shared) (u : Value), BindsTo s fd ⟨[u], []⟩ [("_law_script", u)]) ∧ ∀ base : Heap, (K w.params).In base → base.Ns mainGlobals mg → FnOk l.prog w (K w.params) mg base (L2.CX l.prog w) 6 fa fd ["_law_script"] (spLaw (K w.params))) :
    PySem.W.WalkO q loose XP YP l.row.toRowW d [] (fun f vs => PySem.call f vs) :=
  L2.walk_of (n := 63) (k := 6) (x := "_law_script") (CX := fun w => L2.CX l.prog w) (sp := fun w => spLaw (K w.params)) hn (by decide) hdf ⟨rfl, by decide, by decide⟩ hY F (fun _ _ a ns hl _ hS => ⟨a, ns, rfl, hS, hl, fun _ => rfl⟩) fun w H s e s' z => no_way l.prog w H s e s' z
end K01
open PySem PySem.W PyProof.Rows
set_option maxRecDepth 100000 in
set_option maxHeartbeats 0 in
theorem PySem.Challenge.cw_fourhinges_k01_ratios_holds : PySem.Challenge.rw_fourhinges_k01_ratios.Holds := by
  w_on; o_law; k_head; (case hw => w_witness2)
  k_fill
  refine K01.walk (l := PySem.Challenge.rw_fourhinges_k01_ratios) rfl rfl (fun w h Y => PySem.W.kIn_of Y) ?F
  case F =>
    intro w mg fa h KX G hmg
    refine' K01.all_mk KX G hmg ?a_is_number ?l_is_number ?c_is_number ?k_is_number ?a_is_whole ?l_is_whole ?c_is_whole ?k_is_whole ?a_ratio ?l_ratio ?c_ratio ?k_ratio ?a_compare_ratios ?l_compare_ratios ?c_compare_ratios ?k_compare_ratios ?a_ratio_sum ?l_ratio_sum ?c_ratio_sum ?k_ratio_sum ?a_ratio_product ?l_ratio_product ?c_ratio_product ?k_ratio_product ?a__law_pen ?l__law_pen ?c__law_pen ?k__law_pen ?a__law_take ?l__law_take ?c__law_take ?k__law_take ?a__law_of ?l__law_of ?c__law_of ?k__law_of ?a__law_number ?l__law_number ?c__law_number ?k__law_number ?a__law_is_number ?l__law_is_number ?c__law_is_number ?k__law_is_number ?a__law_divisor ?l__law_divisor ?c__law_divisor ?k__law_divisor ?a__law_right ?l__law_right ?c__law_right ?k__law_right ?a__law_fraction ?l__law_fraction ?c__law_fraction ?k__law_fraction ?a__law_sign ?l__law_sign ?c__law_sign ?k__law_sign ?a__law_two ?l__law_two ?c__law_two ?k__law_two ?a__law_three ?l__law_three ?c__law_three ?k__law_three ?a__law_refused ?l__law_refused ?c__law_refused ?k__law_refused ?a__law_wholes ?l__law_wholes ?c__law_wholes ?k__law_wholes ?a_law ?l_law ?c_law ?k_law ?ac_BridgeError ?ac_BadRatio ?x1_BadRatio ?x2_BadRatio ?x3_BadRatio ?x4_BadRatio ?x5_BadRatio ?x6_BadRatio ?x7_BadRatio ?x8_BadRatio ?li_BadRatio ?ci_BadRatio ?ki_BadRatio ?e1_BadRatio ?e2_BadRatio ?e3_BadRatio ?es_BadRatio_BadRatio ?e1_BridgeError ?e2_BridgeError ?e3_BridgeError ?es_BadRatio_BridgeError ?y1_BadRatio ?y2_BadRatio ?y3_BadRatio ?y4_BadRatio ?y5_BadRatio ?y6_BadRatio ?y7_BadRatio ?y8_BadRatio ?z_abs ?z_bool ?z_int ?z_isinstance ?z_len ?z_list ?z_range ?z_str ?z_tuple ?zi_gcd
    (case a_is_number => k_is)
    (case l_is_number => k_is)
    (case c_is_number => k_is)
    (case k_is_number => k_is)
    (case a_is_whole => k_is)
    (case l_is_whole => k_is)
    (case c_is_whole => k_is)
    (case k_is_whole => k_is)
    (case a_ratio => k_is)
    (case l_ratio => k_is)
    (case c_ratio => k_is)
    (case k_ratio => k_is)
    (case a_compare_ratios => k_is)
    (case l_compare_ratios => k_is)
    (case c_compare_ratios => k_is)
    (case k_compare_ratios => k_is)
    (case a_ratio_sum => k_is)
    (case l_ratio_sum => k_is)
    (case c_ratio_sum => k_is)
    (case k_ratio_sum => k_is)
    (case a_ratio_product => k_is)
    (case l_ratio_product => k_is)
    (case c_ratio_product => k_is)
    (case k_ratio_product => k_is)
    (case a__law_pen => k_is)
    (case l__law_pen => k_is)
    (case c__law_pen => k_is)
    (case k__law_pen => k_is)
    (case a__law_take => k_is)
    (case l__law_take => k_is)
    (case c__law_take => k_is)
    (case k__law_take => k_is)
    (case a__law_of => k_is)
    (case l__law_of => k_is)
    (case c__law_of => k_is)
    (case k__law_of => k_is)
    (case a__law_number => k_is)
    (case l__law_number => k_is)
    (case c__law_number => k_is)
    (case k__law_number => k_is)
    (case a__law_is_number => k_is)
    (case l__law_is_number => k_is)
    (case c__law_is_number => k_is)
    (case k__law_is_number => k_is)
    (case a__law_divisor => k_is)
    (case l__law_divisor => k_is)
    (case c__law_divisor => k_is)
    (case k__law_divisor => k_is)
    (case a__law_right => k_is)
    (case l__law_right => k_is)
    (case c__law_right => k_is)
    (case k__law_right => k_is)
    (case a__law_fraction => k_is)
    (case l__law_fraction => k_is)
    (case c__law_fraction => k_is)
    (case k__law_fraction => k_is)
    (case a__law_sign => k_is)
    (case l__law_sign => k_is)
    (case c__law_sign => k_is)
    (case k__law_sign => k_is)
    (case a__law_two => k_is)
    (case l__law_two => k_is)
    (case c__law_two => k_is)
    (case k__law_two => k_is)
    (case a__law_three => k_is)
    (case l__law_three => k_is)
    (case c__law_three => k_is)
    (case k__law_three => k_is)
    (case a__law_refused => k_is)
    (case l__law_refused => k_is)
    (case c__law_refused => k_is)
    (case k__law_refused => k_is)
    (case a__law_wholes => k_is)
    (case l__law_wholes => k_is)
    (case c__law_wholes => k_is)
    (case k__law_wholes => k_is)
    (case a_law => k_is)
    (case l_law => k_is)
    (case c_law => k_is)
    (case k_law => k_is)
    (case ac_BridgeError => k_is)
    (case ac_BadRatio => k_is)
    (case x1_BadRatio => k_is)
    (case x2_BadRatio => decide +kernel)
    (case x3_BadRatio => k_is)
    (case x4_BadRatio => k_is)
    (case x5_BadRatio => k_is)
    (case x6_BadRatio => k_is)
    (case x7_BadRatio => k_is)
    (case x8_BadRatio => k_is)
    (case li_BadRatio => k_is)
    (case ci_BadRatio => k_is)
    (case ki_BadRatio => k_is)
    (case e1_BadRatio => k_is)
    (case e2_BadRatio => k_is)
    (case e3_BadRatio => k_is)
    (case es_BadRatio_BadRatio => k_is)
    (case e1_BridgeError => k_is)
    (case e2_BridgeError => k_is)
    (case e3_BridgeError => k_is)
    (case es_BadRatio_BridgeError => k_is)
    (case y1_BadRatio => k_is)
    (case y2_BadRatio => k_is)
    (case y3_BadRatio => k_is)
    (case y4_BadRatio => k_is)
    (case y5_BadRatio => k_is)
    (case y6_BadRatio => k_is)
    (case y7_BadRatio => k_is)
    (case y8_BadRatio => k_is)
    (case z_abs => k_is)
    (case z_bool => k_is)
    (case z_int => k_is)
    (case z_isinstance => k_is)
    (case z_len => k_is)
    (case z_list => k_is)
    (case z_range => k_is)
    (case z_str => k_is)
    (case z_tuple => k_is)
    (case zi_gcd => k_is)

