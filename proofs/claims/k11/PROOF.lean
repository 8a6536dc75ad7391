import PyProof.Rows.All
import Wide.All
import OpenK.AllK
import Wide.FinOn
import HandS.ForMost
import HandS.Exc
import HandS.TryOnly
import HandS.ExcOwn
import HandS.WordsExc
import HandS.ExcInit
import HandS.ExcIs
import HandS.ExcField
import HandS.Wide
import HandS.Gcd
import HandS.IsInst
import HandS.Style
import HandS.Flow
import HandS.Conv
import HandS.ClsMeth
import HandS.Property
import HandS.CallSlots
import KE.KOpsOwn
import HandS.Defaults
import KE.KExcIs
import PySem.Challenge.RW_fourhinges_k11_motions_measured
set_option Elab.async false
set_option linter.all false
set_option maxRecDepth 100000
set_option maxHeartbeats 4000000
/-! ## Trees: data as plain values, a program's defs as plain functions over them -/
namespace Tw
open PySem L2

inductive D where
  | non | bl (b : Bool) | int (i : Int) | str (x : Str) | ty (n : String) | cls (n : Nat)
  | lst (xs : List D) | tup (xs : List D) | ins (n : Nat) (ns : List Str) (xs : List D) | err (c : Nat) (ns : List Str) (xs : List D) | pen | bag | self

mutual
/-- neither the exception that is handled nor the object that is being made -/
def clear : D → Bool
  | .err _ _ _ => false
  | .self => false
  | .lst xs => clearL xs
  | .tup xs => clearL xs
  | .ins _ _ xs => clearL xs
  | .non => true
  | .bl _ => true
  | .int _ => true
  | .str _ => true
  | .ty _ => true
  | .cls _ => true
  | .pen => true
  | .bag => true
def clearL : List D → Bool
  | [] => true
  | d :: ds => clear d && clearL ds
end
/-- the state of the pen -/
structure Pen where
  cells : List Int
  next : Nat
  digits : Int
  rest : Int
  seed : Int
  turn : Int
  obj : List (Str × D) := []
  ocls : Nat := 0

inductive Out (α : Type) where
  | ok (a : α) (s : Pen)
  | exc (c : Nat) (ns : List Str) (xs : List D) (s : Pen)
  | bad

abbrev M (α : Type) := Pen → Out α
def mret {α : Type} (a : α) : M α := fun s => .ok a s
def mbad {α : Type} : M α := fun _ => .bad
def obind {α β : Type} (o : Out α) (f : α → M β) : Out β := match o with
  | .ok a s' => f a s'
  | .exc c ns xs s' => .exc c ns xs s'
  | .bad => .bad
def mbind {α β : Type} (m : M α) (f : α → M β) : M β := fun s => obind (m s) f

/-- the pen's address; an object that is being made: its address, class and dict; the addresses that no tree may name -/
structure Fm where
  pen : Option (Addr × Bool)
  obj : Option (Addr × Nat × Addr)
  out : Addr → Prop
  okp : ∀ a k, pen = some (a, k) → out a
  oko : ∀ x c d, obj = some (x, c, d) → out x
/-- what may change while others look on -/
def Fm.mut (p : Fm) (a : Addr) : Prop := (∃ k, p.pen = some (a, k)) ∨ ∃ c d, p.obj = some (a, c, d)
theorem Fm.no {p : Fm} {a : Addr} (h : ¬ p.out a) : ¬ p.mut a := fun z => z.elim (fun ⟨k, e⟩ => h (p.okp a k e)) fun ⟨c, d, e⟩ => h (p.oko a c d e)
/-- the classes' addresses; the exception that is being handled: where it stands, its class, its dict -/
structure Gt where
  cls : Nat → Addr
  err : Option (Addr × Nat × Option Addr)
abbrev Gt.bare (G : Gt) : Gt := ⟨G.cls, none⟩
section
variable (G : Gt)
mutual
def Rep (p : Fm) (H : Hp) : D → V → Prop
  | .non, v => v = .non
  | .bl b, v => v = .bl b
  | .int i, v => v = .int i
  | .str x, v => v = .str x
  | .ty n, v => v = .ty n
  | .cls n, v => v = .ref (G.cls n)
  | .pen, v => ∃ a, p.pen = some (a, false) ∧ v = .ref a
  | .bag, v => ∃ a, p.pen = some (a, true) ∧ v = .ref a
  | .self, v => ∃ a c d, p.obj = some (a, c, d) ∧ v = .ref a
  | .lst ds, v => ∃ a vs, v = .ref a ∧ ¬ p.out a ∧ H a = some (.lst vs) ∧ RepL p H ds vs
  | .tup ds, v => ∃ a vs, v = .ref a ∧ ¬ p.out a ∧ H a = some (.tup vs) ∧ RepL p H ds vs
  | .err c ns ds, v => ∃ a dd vs, v = .ref a ∧ G.err = some (a, c, dd) ∧ RepL p H ds vs ∧ ((ns = [] ∧ dd = none) ∨ ∃ b gs, ns ≠ [] ∧ dd = some b ∧ ¬ p.out b ∧ H b = some (.xd gs) ∧ ∀ (i : Nat) (f : Str) (v : V), ns[i]? = some f → vs[i]? = some v → gs.lookup f = some v)
  | .ins n ns ds, v => ∃ a dx vs, v = .ref a ∧ ¬ p.out a ∧ H a = some (.ins (G.cls n) dx (ns.zip vs)) ∧ ns.length = vs.length ∧ RepL p H ds vs
def RepL (p : Fm) (H : Hp) : List D → List V → Prop
  | [], vs => vs = []
  | d :: ds, vs => ∃ v r, vs = v :: r ∧ Rep p H d v ∧ RepL p H ds r
end

def penKV (c : Addr) (s : Pen) : List (Key × V) :=
  [(Sum.inr "cells", .ref c), (Sum.inr "next", .int s.next), (Sum.inr "digits", .int s.digits), (Sum.inr "rest", .int s.rest), (Sum.inr "seed", .int s.seed), (Sum.inr "turn", .int s.turn)]
def PenR (p : Fm) (H : Hp) (a : Addr) (k : Bool) (s : Pen) : Prop := (k = true ∧ H a = some (.lst [.int s.rest, .int s.seed, .int s.turn])) ∨
  (k = false ∧ ∃ c, ¬ p.out c ∧ H a = some (.dK (penKV c s)) ∧ H c = some (.lst (s.cells.map V.int)))
def PenOk (p : Fm) (H : Hp) (s : Pen) : Prop := (∀ a k, p.pen = some (a, k) → PenR p H a k s) ∧
  (∀ x c dx, p.obj = some (x, c, dx) → ∃ vs, H x = some (.ins (G.cls c) dx ((s.obj.map (·.1)).zip vs)) ∧ (s.obj.length = vs.length ∧ clearL (s.obj.map (·.2)) = true ∧ c = s.ocls) ∧ RepL (Gt.bare G) p H (s.obj.map (·.2)) vs) ∧ ∀ a, p.out a → ∃ o, H a = some o
/-- all stands but the pen -/
def Keep (p : Fm) (H H' : Hp) : Prop := ∀ a o, ¬ p.mut a → H a = some o → H' a = some o
/-- an exception's own dict -/
def ExcOk (p : Fm) (H : Hp) (ns : List Str) (xs : List D) (dd : Option Addr) : Prop :=
  ∃ vs, RepL G p H xs vs ∧ ((ns = [] ∧ dd = none) ∨ ∃ b gs, ns ≠ [] ∧ dd = some b ∧ ¬ p.out b ∧ H b = some (.xd gs) ∧ ∀ (i : Nat) (f : Str) (v : V), ns[i]? = some f → vs[i]? = some v → gs.lookup f = some v)
end

theorem Keep.refl {p : Fm} {H : Hp} : Keep p H H := fun _ _ _ h => h
theorem Keep.trans {p : Fm} {H H1 H2 : Hp} (a : Keep p H H1) (b : Keep p H1 H2) : Keep p H H2 := fun x o n h => b x o n (a x o n h)
theorem Keep.new {p : Fm} {H : Hp} {a : Addr} {o : HO} (h : H a = none) : Keep p H (upd H a o) := fun b u _ e => by
  rw [upd_ne (ne_of_none e h)]; exact e

section
variable {K : PySem.W.Frag} {G : Gt} {p : Fm} {H H' : Hp}
def PenAt (_ : Fm) (_ : Hp) : Prop := True
theorem PenOk.at {s : Pen} (_ : PenOk G p H s) : PenAt p H := trivial
theorem PenOk.free {s : Pen} (h : PenOk G p H s) {a : Addr} (n : H a = none) : ¬ p.out a := fun z => by
  obtain ⟨o, e⟩ := h.2.2 a z
  rw [n] at e
  cases e
mutual
theorem rep_keep (h : PenAt p H) (k : Keep p H H') : ∀ (d : D) (v : V), Rep G p H d v → Rep G p H' d v
  | .non, _, q => q
  | .bl _, _, q => q
  | .int _, _, q => q
  | .str _, _, q => q
  | .ty _, _, q => q
  | .cls _, _, q => q
  | .pen, _, q => q
  | .bag, _, q => q
  | .self, _, q => q
  | .lst ds, v, q => by
    obtain ⟨a, vs, e, q0, q1, q2⟩ := q
    exact ⟨a, vs, e, q0, k _ _ (Fm.no q0) q1, repL_keep h k ds vs q2⟩
  | .tup ds, v, q => by
    obtain ⟨a, vs, e, q0, q1, q2⟩ := q
    exact ⟨a, vs, e, q0, k _ _ (Fm.no q0) q1, repL_keep h k ds vs q2⟩
  | .err c ns ds, v, q => by
    obtain ⟨a, dd, vs, e, q0, q2, q3⟩ := q
    refine ⟨a, dd, vs, e, q0, repL_keep h k ds vs q2, ?_⟩
    rcases q3 with q3 | ⟨b, gs, e0, e1, e2, e3, e4⟩
    · exact .inl q3
    · exact .inr ⟨b, gs, e0, e1, e2, k _ _ (Fm.no e2) e3, e4⟩
  | .ins n ns ds, v, q => by
    obtain ⟨a, dx, vs, e, q0, q1, q3, q2⟩ := q
    exact ⟨a, dx, vs, e, q0, k _ _ (Fm.no q0) q1, q3, repL_keep h k ds vs q2⟩
theorem repL_keep (h : PenAt p H) (k : Keep p H H') : ∀ (ds : List D) (vs : List V), RepL G p H ds vs → RepL G p H' ds vs
  | [], _, q => q
  | d :: ds, vs, q => by
    obtain ⟨v, r, e, q1, q2⟩ := q
    exact ⟨v, r, e, rep_keep h k d v q1, repL_keep h k ds r q2⟩
end
/-! another frame -/
mutual
theorem rep_out {q : Fm} (hp : q.pen = p.pen) (hb : q.obj = p.obj) (ho : ∀ a o, H a = some o → ¬ p.out a → ¬ q.out a) : ∀ (d : D) (v : V), Rep G p H d v → Rep G q H d v
  | .non, _, h => h
  | .bl _, _, h => h
  | .int _, _, h => h
  | .str _, _, h => h
  | .ty _, _, h => h
  | .cls _, _, h => h
  | .pen, _, h => by obtain ⟨a, e, z⟩ := h; exact ⟨a, hp.trans e, z⟩
  | .bag, _, h => by obtain ⟨a, e, z⟩ := h; exact ⟨a, hp.trans e, z⟩
  | .self, _, h => by obtain ⟨a, c, d, e, z⟩ := h; exact ⟨a, c, d, hb.trans e, z⟩
  | .lst ds, v, h => by
    obtain ⟨a, vs, e, q0, q1, q2⟩ := h
    exact ⟨a, vs, e, ho _ _ q1 q0, q1, repL_out hp hb ho ds vs q2⟩
  | .tup ds, v, h => by
    obtain ⟨a, vs, e, q0, q1, q2⟩ := h
    exact ⟨a, vs, e, ho _ _ q1 q0, q1, repL_out hp hb ho ds vs q2⟩
  | .err c ns ds, v, h => by
    obtain ⟨a, dd, vs, e, q0, q2, q3⟩ := h
    refine ⟨a, dd, vs, e, q0, repL_out hp hb ho ds vs q2, ?_⟩
    rcases q3 with q3 | ⟨b, gs, e0, e1, e2, e3, e4⟩
    · exact .inl q3
    · exact .inr ⟨b, gs, e0, e1, ho _ _ e3 e2, e3, e4⟩
  | .ins n ns ds, v, h => by
    obtain ⟨a, dx, vs, e, q0, q1, q3, q2⟩ := h
    exact ⟨a, dx, vs, e, ho _ _ q1 q0, q1, q3, repL_out hp hb ho ds vs q2⟩
theorem repL_out {q : Fm} (hp : q.pen = p.pen) (hb : q.obj = p.obj) (ho : ∀ a o, H a = some o → ¬ p.out a → ¬ q.out a) : ∀ (ds : List D) (vs : List V), RepL G p H ds vs → RepL G q H ds vs
  | [], _, h => h
  | d :: ds, vs, h => by
    obtain ⟨v, r, e, q1, q2⟩ := h
    exact ⟨v, r, e, rep_out hp hb ho d v q1, repL_out hp hb ho ds r q2⟩
end
/-! a change at an address that no tree names -/
mutual
theorem rep_upd {a0 : Addr} {o0 : HO} (ha : p.out a0) : ∀ (d : D) (v : V), Rep G p H d v → Rep G p (upd H a0 o0) d v
  | .non, _, h => h
  | .bl _, _, h => h
  | .int _, _, h => h
  | .str _, _, h => h
  | .ty _, _, h => h
  | .cls _, _, h => h
  | .pen, _, h => h
  | .bag, _, h => h
  | .self, _, h => h
  | .lst ds, v, h => by
    obtain ⟨a, vs, e, q0, q1, q2⟩ := h
    exact ⟨a, vs, e, q0, by rw [upd_ne (fun z => q0 (by rw [z]; exact ha))]; exact q1, repL_upd ha ds vs q2⟩
  | .tup ds, v, h => by
    obtain ⟨a, vs, e, q0, q1, q2⟩ := h
    exact ⟨a, vs, e, q0, by rw [upd_ne (fun z => q0 (by rw [z]; exact ha))]; exact q1, repL_upd ha ds vs q2⟩
  | .err c ns ds, v, h => by
    obtain ⟨a, dd, vs, e, q0, q2, q3⟩ := h
    refine ⟨a, dd, vs, e, q0, repL_upd ha ds vs q2, ?_⟩
    rcases q3 with q3 | ⟨b, gs, e0, e1, e2, e3, e4⟩
    · exact .inl q3
    · exact .inr ⟨b, gs, e0, e1, e2, by rw [upd_ne (fun z => e2 (by rw [z]; exact ha))]; exact e3, e4⟩
  | .ins n ns ds, v, h => by
    obtain ⟨a, dx, vs, e, q0, q1, q3, q2⟩ := h
    exact ⟨a, dx, vs, e, q0, by rw [upd_ne (fun z => q0 (by rw [z]; exact ha))]; exact q1, q3, repL_upd ha ds vs q2⟩
theorem repL_upd {a0 : Addr} {o0 : HO} (ha : p.out a0) : ∀ (ds : List D) (vs : List V), RepL G p H ds vs → RepL G p (upd H a0 o0) ds vs
  | [], _, h => h
  | d :: ds, vs, h => by
    obtain ⟨v, r, e, q1, q2⟩ := h
    exact ⟨v, r, e, rep_upd ha d v q1, repL_upd ha ds r q2⟩
end
/-! clear data, whatever is made or handled -/
mutual
theorem rep_move {G' : Gt} {q : Fm} (hc : G'.cls = G.cls) (hp : q.pen = p.pen) (ho : ∀ a o, H a = some o → ¬ p.out a → ¬ q.out a) : ∀ (d : D) (v : V), clear d = true → Rep G p H d v → Rep G' q H d v
  | .non, _, _, h => h
  | .bl _, _, _, h => h
  | .int _, _, _, h => h
  | .str _, _, _, h => h
  | .ty _, _, _, h => h
  | .cls n, v, _, h => by show v = .ref (G'.cls n); rw [hc]; exact h
  | .pen, _, _, h => by obtain ⟨a, e, z⟩ := h; exact ⟨a, hp.trans e, z⟩
  | .bag, _, _, h => by obtain ⟨a, e, z⟩ := h; exact ⟨a, hp.trans e, z⟩
  | .self, _, e, _ => by cases e
  | .err _ _ _, _, e, _ => by cases e
  | .lst ds, v, e, h => by
    obtain ⟨a, vs, e1, q0, q1, q2⟩ := h
    exact ⟨a, vs, e1, ho _ _ q1 q0, q1, repL_move hc hp ho ds vs e q2⟩
  | .tup ds, v, e, h => by
    obtain ⟨a, vs, e1, q0, q1, q2⟩ := h
    exact ⟨a, vs, e1, ho _ _ q1 q0, q1, repL_move hc hp ho ds vs e q2⟩
  | .ins n ns ds, v, e, h => by
    obtain ⟨a, dx, vs, e1, q0, q1, q3, q2⟩ := h
    exact ⟨a, dx, vs, e1, ho _ _ q1 q0, by rw [hc]; exact q1, q3, repL_move hc hp ho ds vs e q2⟩
theorem repL_move {G' : Gt} {q : Fm} (hc : G'.cls = G.cls) (hp : q.pen = p.pen) (ho : ∀ a o, H a = some o → ¬ p.out a → ¬ q.out a) : ∀ (ds : List D) (vs : List V), clearL ds = true → RepL G p H ds vs → RepL G' q H ds vs
  | [], _, _, h => h
  | d :: ds, vs, e, h => by
    obtain ⟨v, r, e1, q1, q2⟩ := h
    have e' : (clear d && clearL ds) = true := e
    rw [Bool.and_eq_true] at e'
    exact ⟨v, r, e1, rep_move hc hp ho d v e'.1 q1, repL_move hc hp ho ds r e'.2 q2⟩
end
theorem PenR.keep {s : Pen} {a : Addr} {kd : Bool} (h : PenR p H a kd s) (ha : H' a = H a) (k : ∀ c o, ¬ p.out c → H c = some o → H' c = some o) : PenR p H' a kd s := by
  rcases h with ⟨e, h⟩ | ⟨e, c, h0, h1, h2⟩
  · exact .inl ⟨e, ha.trans h⟩
  · exact .inr ⟨e, c, h0, ha.trans h1, k c _ h0 h2⟩
/-- a new object leaves the pen -/
theorem PenOk.new {s : Pen} (h : PenOk G p H s) {a : Addr} {o : HO} (n : H a = none) : PenOk G p (upd H a o) s := by
  have hk : Keep p H (upd H a o) := Keep.new n
  have same : ∀ b, p.out b → upd H a o b = H b := fun b hb => upd_ne (fun z => h.free n (by rw [← z]; exact hb))
  refine ⟨fun b kd e => (h.1 b kd e).keep (same b (p.okp b kd e)) fun c u _ hc => by rw [upd_ne (ne_of_none hc n)]; exact hc, fun x c dx e => ?_, fun b hb => ?_⟩
  · obtain ⟨vs, h1, hl, h2⟩ := h.2.1 x c dx e
    exact ⟨vs, (same x (p.oko x c dx e)).trans h1, hl, repL_keep trivial hk _ _ h2⟩
  · obtain ⟨u, h1⟩ := h.2.2 b hb
    exact ⟨u, (same b hb).trans h1⟩
theorem repL_len : ∀ {ds : List D} {vs : List V}, RepL G p H ds vs → ds.length = vs.length
  | [], vs, q => by rw [(show vs = [] from q)]; rfl
  | d :: ds, vs, q => by
    obtain ⟨v, r, e, _, q2⟩ := q
    subst e
    rw [List.length_cons, List.length_cons, repL_len q2]
theorem repL_get : ∀ {ds : List D} {vs : List V} {i : Nat} {d : D}, RepL G p H ds vs → ds[i]? = some d → ∃ v, vs[i]? = some v ∧ Rep G p H d v
  | [], _, i, d, _, e => by simp at e
  | d :: ds, vs, 0, x, q, e => by
    obtain ⟨v, r, rfl, q1, _⟩ := q
    simp at e; subst e
    exact ⟨v, rfl, q1⟩
  | d :: ds, vs, i + 1, x, q, e => by
    obtain ⟨v, r, rfl, _, q2⟩ := q
    obtain ⟨u, h1, h2⟩ := repL_get (i := i) q2 (by simpa using e)
    exact ⟨u, by simpa using h1, h2⟩
theorem repL_get' : ∀ {ds : List D} {vs : List V} {i : Nat} {v : V}, RepL G p H ds vs → vs[i]? = some v → ∃ d, ds[i]? = some d ∧ Rep G p H d v := fun {ds vs i v} q e => by
  have hl := repL_len q
  obtain ⟨h1, _⟩ := List.getElem?_eq_some_iff.mp e
  have h2 : ds[i]? = some (ds[i]'(by omega)) := List.getElem?_eq_some_iff.mpr ⟨by omega, rfl⟩
  obtain ⟨u, h3, h4⟩ := repL_get q h2
  rw [e] at h3; cases h3
  exact ⟨_, h2, h4⟩
theorem repL_app : ∀ {ds es : List D} {vs us : List V}, RepL G p H ds vs → RepL G p H es us → RepL G p H (ds ++ es) (vs ++ us)
  | [], es, vs, us, q, q' => by rw [(show vs = [] from q)]; exact q'
  | d :: ds, es, vs, us, q, q' => by
    obtain ⟨v, r, rfl, q1, q2⟩ := q
    exact ⟨v, r ++ us, rfl, q1, repL_app q2 q'⟩

abbrev Loc := List (Option D)
/-- the slots -/
def EnvOk (G : Gt) (p : Fm) (H : Hp) (σ : St) (ρ : Loc) : Prop :=
  σ.length = ρ.length ∧ ∀ (i : Nat) (d : D), ρ[i]? = some (some d) → ∃ v, σ[i]? = some (some v) ∧ Rep G p H d v
theorem EnvOk.keep {σ : St} {ρ : Loc} (h : PenAt p H) (k : Keep p H H') (e : EnvOk G p H σ ρ) : EnvOk G p H' σ ρ :=
  ⟨e.1, fun i d q => let ⟨v, h1, h2⟩ := e.2 i d q; ⟨v, h1, rep_keep h k d v h2⟩⟩
theorem EnvOk.set {σ : St} {ρ : Loc} {i : Nat} {d : D} {v : V} (e : EnvOk G p H σ ρ) (q : Rep G p H d v) : EnvOk G p H (σ.set i (some v)) (ρ.set i (some d)) := by
  refine ⟨by simp [e.1], fun j x hx => ?_⟩
  rw [List.getElem?_set] at hx
  by_cases hij : i = j
  · subst hij
    simp only [if_true] at hx
    by_cases hl : i < ρ.length
    · rw [if_pos hl] at hx
      have hx' : d = x := by simpa using hx
      subst hx'
      exact ⟨v, by rw [List.getElem?_set]; simp [e.1, hl], q⟩
    · rw [if_neg hl] at hx; cases hx
  · rw [if_neg hij] at hx
    obtain ⟨u, h1, h2⟩ := e.2 j x hx
    exact ⟨u, by rw [List.getElem?_set, if_neg hij]; exact h1, h2⟩

/-- what is wanted of an outcome -/
def FinG {α β : Type} (G : Gt) (W : WX) (Rel : Fm → Hp → α → β → Prop) (p : Fm) (σ : St) (H : Hp) (Q : β → Hp → Prop) : Out α → Prop
  | .ok a s => ∀ b H', Keep p H H' → PenOk G p H' s → Rel p H' a b → Q b H'
  | .exc c ns xs s => ∀ dd H', Keep p H H' → PenOk G p H' s → ExcOk G p H' ns xs dd → W (.ref (G.cls c)) dd σ H'
  | .bad => False
theorem FinG.keep {α β : Type} {W : WX} {Rel : Fm → Hp → α → β → Prop} {σ : St} {Q : β → Hp → Prop} {o : Out α} (k : Keep p H H') (h : FinG G W Rel p σ H Q o) : FinG G W Rel p σ H' Q o := by
  cases o with
  | ok a s => exact fun b H2 k2 => h b H2 (k.trans k2)
  | exc c ns xs s => exact fun dd H2 k2 => h dd H2 (k.trans k2)
  | bad => exact h
/-- the reading t does what m says -/
def RunG {α β : Type} (G : Gt) (W : WX) (Rel : Fm → Hp → α → β → Prop) (t : St → Hp → (β → Hp → Prop) → Prop) (m : Loc → M α) : Prop :=
  ∀ (p : Fm) (σ : St) (H : Hp) (ρ : Loc) (s : Pen) (Q : β → Hp → Prop), EnvOk G p H σ ρ → PenOk G p H s → FinG G W Rel p σ H Q (m ρ s) → t σ H Q
abbrev RelE (G : Gt) : Fm → Hp → D → V → Prop := fun p H d v => Rep G p H d v
abbrev RelB : Fm → Hp → Bool → Bool → Prop := fun _ _ a b => b = a
abbrev RelA (G : Gt) : Fm → Hp → List D → List V → Prop := fun p H ds vs => RepL G p H ds vs
abbrev RunE (G : Gt) (W : WX) (t : TE) (m : Loc → M D) : Prop := RunG G W (RelE G) t m
abbrev RunT (G : Gt) (W : WX) (t : TT) (m : Loc → M Bool) : Prop := RunG G W RelB t m
abbrev RunA (G : Gt) (W : WX) (t : TA) (m : Loc → M (List D)) : Prop := RunG G W (RelA G) t m

/-- one reading behind another -/
theorem RunG.bind {α β γ δ : Type} {W : WX} {RA : Fm → Hp → α → β → Prop} {RC : Fm → Hp → γ → δ → Prop} {ta : St → Hp → (β → Hp → Prop) → Prop} {tb : β → St → Hp → (δ → Hp → Prop) → Prop} {f : Loc → M α} {g : Loc → α → M γ}
    (ha : RunG G W RA ta f)
    (hb : ∀ (p : Fm) (σ : St) (H : Hp) (ρ : Loc) (s : Pen) (a : α) (b : β) (Q : δ → Hp → Prop), EnvOk G p H σ ρ → PenOk G p H s → RA p H a b → FinG G W RC p σ H Q (g ρ a s) → tb b σ H Q) :
    RunG G W RC (fun σ H Q => ta σ H fun x H1 => tb x σ H1 Q) (fun ρ => mbind (f ρ) (g ρ)) := by
  intro p σ H ρ s Q e pk fin
  refine ha p σ H ρ s _ e pk ?_
  have fin : FinG G W RC p σ H Q (obind (f ρ s) (g ρ)) := fin
  cases h : f ρ s with
  | ok a s' =>
    rw [h] at fin
    exact fun b H1 k pk1 r => hb p σ H1 ρ s' a b Q (e.keep pk.at k) pk1 r (fin.keep k)
  | exc c ns xs s' =>
    rw [h] at fin
    exact fun dd H1 k pk1 x => fin dd H1 k pk1 x
  | bad =>
    rw [h] at fin
    exact fin
end
end Tw

set_option Elab.async false
set_option linter.all false
set_option maxRecDepth 100000
set_option maxHeartbeats 4000000
namespace Tw
open PySem L2
section
variable {K : PySem.W.Frag} {G : Gt} {W : WX} {X : Cx}

theorem FinG.step {α β γ δ : Type} {RA : Fm → Hp → α → β → Prop} {RC : Fm → Hp → γ → δ → Prop} {p : Fm} {σ : St} {H : Hp} {s : Pen} {Q : δ → Hp → Prop} {R : β → Hp → Prop} {f : M α} {g : α → M γ}
    (fin : FinG G W RC p σ H Q (mbind f g s))
    (hb : ∀ a s1 b H1, Keep p H H1 → PenOk G p H1 s1 → RA p H1 a b → FinG G W RC p σ H1 Q (g a s1) → R b H1) : FinG G W RA p σ H R (f s) := by
  have fin : FinG G W RC p σ H Q (obind (f s) g) := fin
  cases h : f s with
  | ok a s1 => rw [h] at fin; exact fun b H1 k pk r => hb a s1 b H1 k pk r (FinG.keep k fin)
  | exc c ns xs s1 => rw [h] at fin; exact fin
  | bad => rw [h] at fin; exact fin

structure DE (G : Gt) (X : Cx) (W : WX) (e : Expr) (t : TE) (m : Loc → M D) : Prop where
  pe : PE X e t
  run : RunG G W (RelE G) t m
structure DT (G : Gt) (X : Cx) (W : WX) (e : Expr) (t : TT) (m : Loc → M Bool) : Prop where
  pt : PT X e t
  run : RunG G W RelB t m
structure DW (G : Gt) (X : Cx) (W : WX) (e : Expr) (t : TT) (m : Loc → M Bool) : Prop where
  pw : PW X e t
  run : RunG G W RelB t m
structure DA (G : Gt) (X : Cx) (W : WX) (es : List Expr) (t : TA) (m : Loc → M (List D)) : Prop where
  pa : PA X es t
  run : RunG G W (RelA G) t m

/-! ### names and constants -/
def mvar (i : Nat) : Loc → M D := fun ρ => match ρ[i]? with
  | some (some d) => mret d
  | _ => mbad
theorem run_var {i : Nat} : RunG G W (RelE G) (tVar i) (mvar i) := by
  intro p σ H ρ s Q e pk fin
  unfold mvar at fin
  cases h : ρ[i]? with
  | none => rw [h] at fin; exact False.elim fin
  | some o =>
    cases o with
    | none => rw [h] at fin; exact False.elim fin
    | some d =>
      rw [h] at fin
      obtain ⟨v, h1, h2⟩ := e.2 i d h
      exact ⟨v, h1, fin v H Keep.refl pk h2⟩
theorem run_c {v : V} {d : D} (h : ∀ p H, Rep G p H d v) : RunG G W (RelE G) (tC v) (fun _ => mret d) := by
  intro p σ H ρ s Q e pk fin
  exact fin v H Keep.refl pk (h p H)
theorem de_var (i : Nat) {x : Str} {pos : Pos} (hN : X.N[i]? = some x := by rfl) (hv : Vis X.env.scope x := by first | exact Or.inl rfl | exact Or.inr (Or.inl rfl) | exact Or.inr (Or.inr rfl)) (hd : (x == ("__debug__" : Str)) = false := by decide)
    (hcd : (x == ("__classdict__" : Str)) = false := by decide) : DE G X W (.Name x pos) (tVar i) (mvar i) := ⟨pe_var hN hv hd hcd, run_var⟩
theorem de_int {i : Int} {j : Nat} {pos : Pos} : DE G X W (.Constant (.int i) j pos) (tC (.int i)) (fun _ => mret (.int i)) := ⟨pe_int, run_c fun _ _ => rfl⟩
theorem de_bl {b : Bool} {j : Nat} {pos : Pos} : DE G X W (.Constant (.bool b) j pos) (tC (.bl b)) (fun _ => mret (.bl b)) := ⟨pe_bl, run_c fun _ _ => rfl⟩
theorem de_non {j : Nat} {pos : Pos} : DE G X W (.Constant .none j pos) (tC .non) (fun _ => mret .non) := ⟨pe_non, run_c fun _ _ => rfl⟩
theorem de_str {x : Str} {j : Nat} {pos : Pos} : DE G X W (.Constant (.str x) j pos) (tC (.str x)) (fun _ => mret (.str x)) := ⟨pe_str, run_c fun _ _ => rfl⟩
/-- a built-in class by name -/
theorem de_ty {x : Str} {n : String} {pos : Pos} (hg : Gl X x) (hm : X.mg x = none) (hv : bootBuiltins x = some (.type n)) (hn : x ≠ "__name__" := by decide) (hd : (x == ("__debug__" : Str)) = false := by decide) :
    DE G X W (.Name x pos) (tC (.ty n)) (fun _ => mret (.ty n)) := ⟨pe_bltn hg hm hv rfl hn hd, run_c fun _ _ => rfl⟩
/-- an own class by name -/
theorem de_cls {x : Str} {n : Nat} {pos : Pos} (hg : Gl X x) (hm : X.mg x = some (.ref (G.cls n))) (hd : (x == ("__debug__" : Str)) = false := by decide) :
    DE G X W (.Name x pos) (tC (.ref (G.cls n))) (fun _ => mret (.cls n)) := ⟨pe_glob hg hm rfl hd, run_c fun _ _ => rfl⟩
/-- a module's whole number by name -/
theorem de_gint {x : Str} {i : Int} {t : Tok} {pos : Pos} (hg : Gl X x) (hm : X.mg x = some (.int i t)) (hd : (x == ("__debug__" : Str)) = false := by decide) :
    DE G X W (.Name x pos) (tC (.int i)) (fun _ => mret (.int i)) := ⟨pe_glob hg hm ⟨t, rfl⟩ hd, run_c fun _ _ => rfl⟩

/-! ### operators -/
def Prim2 (G : Gt) (r : R2) (f : D → D → M D) : Prop :=
  ∀ (W : WX) (p : Fm) (σ : St) (H : Hp) (s : Pen) (x y : D) (vx vy : V) (Q : VK), PenOk G p H s → Rep G p H x vx → Rep G p H y vy → FinG G W (RelE G) p σ H Q (f x y s) → r vx vy H Q
def Prim1 (G : Gt) (r : V → Hp → VK → Prop) (f : D → M D) : Prop :=
  ∀ (W : WX) (p : Fm) (σ : St) (H : Hp) (s : Pen) (x : D) (vx : V) (Q : VK), PenOk G p H s → Rep G p H x vx → FinG G W (RelE G) p σ H Q (f x s) → r vx H Q
def PrimL (G : Gt) (r : List V → Hp → VK → Prop) (f : List D → M D) : Prop :=
  ∀ (W : WX) (p : Fm) (σ : St) (H : Hp) (s : Pen) (xs : List D) (vs : List V) (Q : VK), PenOk G p H s → RepL G p H xs vs → FinG G W (RelE G) p σ H Q (f xs s) → r vs H Q
variable {a b c : Expr} {ta tb tc te : TE} {fa fb fc fe : Loc → M D} {r : R2} {f : D → D → M D} {pos : Pos}
theorem run_op (hp : Prim2 G r f) (ha : RunG G W (RelE G) ta fa) (hb : RunG G W (RelE G) tb fb) : RunG G W (RelE G) (tOp r ta tb) (fun ρ => mbind (fa ρ) fun x => mbind (fb ρ) fun y => f x y) := by
  intro p σ H ρ s Q e pk fin
  exact ha p σ H ρ s _ e pk (fin.step fun x s1 vx H1 k1 pk1 rx fin1 => hb p σ H1 ρ s1 _ (e.keep pk.at k1) pk1 (fin1.step fun y s2 vy H2 k2 pk2 ry fin2 =>
    hp W p σ H2 s2 x y vx vy Q pk2 (rep_keep pk1.at k2 x vx rx) ry fin2))
theorem de_op {op : Operator} (ho : OpR X (binaryOp op) r) (hp : Prim2 G r f) (ha : DE G X W a ta fa) (hb : DE G X W b tb fb) : DE G X W (.BinOp a op b pos) (tOp r ta tb) (fun ρ => mbind (fa ρ) fun x => mbind (fb ρ) fun y => f x y) :=
  ⟨pe_op ho ha.pe hb.pe, run_op hp ha.run hb.run⟩
theorem de_cmp {op : CmpOp} (ho : OpR X (compareOp op) r) (hp : Prim2 G r f) (ha : DE G X W a ta fa) (hb : DE G X W b tb fb) (hm : behindInMarks op b = false := by first | exact nomark _ | rfl) : DE G X W (.Compare a [op] [b] pos) (tOp r ta tb) (fun ρ => mbind (fa ρ) fun x => mbind (fb ρ) fun y => f x y) :=
  ⟨pe_cmpR ho ha.pe hb.pe hm, run_op hp ha.run hb.run⟩
theorem run_un {r : V → Hp → VK → Prop} {f : D → M D} (hp : Prim1 G r f) (ha : RunG G W (RelE G) ta fa) : RunG G W (RelE G) (tUn r ta) (fun ρ => mbind (fa ρ) f) := by
  intro p σ H ρ s Q e pk fin
  exact ha p σ H ρ s _ e pk (fin.step fun x s1 vx H1 k1 pk1 rx fin1 => hp W p σ H1 s1 x vx Q pk1 rx fin1)
theorem de_un {op : UnaryOp} {r : V → Hp → VK → Prop} {f : D → M D} (ho : UnR X (unaryOp op) r) (hp : Prim1 G r f) (ha : DE G X W a ta fa) : DE G X W (.UnaryOp op a pos) (tUn r ta) (fun ρ => mbind (fa ρ) f) := ⟨pe_un ho ha.pe, run_un hp ha.run⟩
/-- of two readings for one operation -/
theorem Prim2.or {r r' : R2} {f f' : D → D → M D} {f2 : D → D → M D} (h : Prim2 G r f) (h' : Prim2 G r' f') (hf : ∀ x y, f2 x y = f x y ∨ f2 x y = f' x y) : Prim2 G (fun x y H Q => r x y H Q ∨ r' x y H Q) f2 := by
  intro W p σ H s x y vx vy Q pk rx ry fin
  rcases hf x y with e | e
  · rw [e] at fin; exact .inl (h W p σ H s x y vx vy Q pk rx ry fin)
  · rw [e] at fin; exact .inr (h' W p σ H s x y vx vy Q pk rx ry fin)
theorem PrimL.or {r r' : List V → Hp → VK → Prop} {f f' f2 : List D → M D} (h : PrimL G r f) (h' : PrimL G r' f') (hf : ∀ x, f2 x = f x ∨ f2 x = f' x) : PrimL G (fun x H Q => r x H Q ∨ r' x H Q) f2 := by
  intro W p σ H s x vx Q pk rx fin
  rcases hf x with e | e
  · rw [e] at fin; exact .inl (h W p σ H s x vx Q pk rx fin)
  · rw [e] at fin; exact .inr (h' W p σ H s x vx Q pk rx fin)

def int2 (g : Int → Int → D) : D → D → M D := fun x y => match x, y with
  | .int i, .int j => mret (g i j)
  | _, _ => mbad
def int2c (c : Int → Int → Bool) (g : Int → Int → D) : D → D → M D := fun x y => match x, y with
  | .int i, .int j => if c i j = true then mret (g i j) else mbad
  | _, _ => mbad
theorem prim_I0 {g : Int → Int → D} {gv : Int → Int → V} (hg : ∀ p H i j, Rep G p H (g i j) (gv i j)) : Prim2 G (rI0 gv) (int2 g) := by
  intro W p σ H s x y vx vy Q pk rx ry fin
  unfold int2 at fin
  split at fin
  · exact ⟨_, _, rx, ry, fin _ H Keep.refl pk (hg ..)⟩
  · exact fin.elim
theorem prim_I {C : Int → Int → Prop} {c : Int → Int → Bool} {g : Int → Int → D} {gv : Int → Int → V} (hc : ∀ i j, c i j = true → C i j) (hg : ∀ p H i j, Rep G p H (g i j) (gv i j)) : Prim2 G (rI C gv) (int2c c g) := by
  intro W p σ H s x y vx vy Q pk rx ry fin
  unfold int2c at fin
  split at fin
  · split at fin
    · rename_i h
      exact ⟨_, _, rx, ry, hc _ _ h, fin _ H Keep.refl pk (hg ..)⟩
    · exact fin.elim
  · exact fin.elim
def addI : D → D → M D := int2 fun i j => .int (i + j)
def subI : D → D → M D := int2 fun i j => .int (i - j)
def mulOk (i j : Int) : Bool := decide (j.natAbs < 2 ^ 64) || (decide (i.natAbs < 2 ^ 64) || decide (i.natAbs.log2 + j.natAbs.log2 < 1000000))
def CMulX (i j : Int) : Prop := CMul i j ∨ CMulW i j
theorem op_mulX {X : Cx} : OpR X (binaryOp .Mult) (rI CMulX fun i j => .int (i * j)) := opI fun _ _ _ _ _ _ _ hc q => PyProof.Rows.mul_int q (hc.elim CMul.ok CMulW.ok)
def mulI : D → D → M D := int2c mulOk fun i j => .int (i * j)
def divOk (_ j : Int) : Bool := decide (0 < j ∧ j.natAbs.log2 < 9000)
def fdivI : D → D → M D := int2c divOk fun i j => .int (i / j)
def modI : D → D → M D := int2c (fun _ j => decide (0 < j)) fun i j => .int (i % j)
def powI : D → D → M D := int2c (fun i j => decide (0 ≤ j ∧ j ≤ 1000000 ∧ i.natAbs < 2 ^ 64)) fun i j => .int (i ^ j.toNat)
theorem prim_add : Prim2 G (rI0 fun i j => .int (i + j)) addI := prim_I0 fun _ _ _ _ => rfl
theorem prim_sub : Prim2 G (rI0 fun i j => .int (i - j)) subI := prim_I0 fun _ _ _ _ => rfl
theorem mulOk_of {i j : Int} (h : mulOk i j = true) : CMulX i j := by
  unfold mulOk at h
  rw [Bool.or_eq_true, Bool.or_eq_true] at h
  rcases h with h | h | h
  · have := of_decide_eq_true h
    exact .inl (.inr ⟨by omega, by omega⟩)
  · have := of_decide_eq_true h
    exact .inl (.inl ⟨by omega, by omega⟩)
  · exact .inr (of_decide_eq_true (p := i.natAbs.log2 + j.natAbs.log2 < 1000000) h)
theorem prim_mul : Prim2 G (rI CMulX fun i j => .int (i * j)) mulI := prim_I (fun i j h => mulOk_of h) fun _ _ _ _ => rfl
theorem prim_fdiv : Prim2 G (rI CDivW fun i j => .int (i / j)) fdivI := prim_I (fun i j h => of_decide_eq_true (p := 0 < j ∧ j.natAbs.log2 < 9000) h) fun _ _ _ _ => rfl
theorem prim_mod : Prim2 G (rI (fun _ j => 0 < j) fun i j => .int (i % j)) modI := prim_I (fun _ _ h => of_decide_eq_true h) fun _ _ _ _ => rfl
theorem prim_pow : Prim2 G (rI CPow fun i j => .int (i ^ j.toNat)) powI := prim_I (fun i j h => of_decide_eq_true (p := 0 ≤ j ∧ j ≤ 1000000 ∧ i.natAbs < 2 ^ 64) h) fun _ _ _ _ => rfl
def negI : D → M D := fun x => match x with
  | .int i => mret (.int (-i))
  | _ => mbad
theorem prim_neg : Prim1 G (rU fun i => .int (-i)) negI := by
  intro W p σ H s x vx Q pk rx fin
  unfold negI at fin
  split at fin
  · exact ⟨_, rx, fin _ H Keep.refl pk rfl⟩
  · exact fin.elim
/-- two lists -/
def catL : D → D → M D := fun x y => match x, y with
  | .lst xs, .lst ys => if decide (xs.length + ys.length ≤ 100000) = true then mret (.lst (xs ++ ys)) else mbad
  | _, _ => mbad
theorem prim_catL : Prim2 G rCat catL := by
  intro W p σ H s x y vx vy Q pk rx ry fin
  unfold catL at fin
  split at fin
  · rename_i xs ys
    split at fin
    · rename_i h
      obtain ⟨a, vs, rfl, h0, h1, q1⟩ := rx
      obtain ⟨b, us, rfl, h0', h2, q2⟩ := ry
      have hl : vs.length + us.length ≤ sizeLine := by
        rw [← repL_len q1, ← repL_len q2]
        exact Nat.le_trans (of_decide_eq_true h) (by decide)
      refine ⟨a, b, vs, us, rfl, rfl, h1, h2, hl, fun l hn => ?_⟩
      have k : Keep p H (upd H l (.lst (vs ++ us))) := Keep.new hn
      exact fin _ _ k (pk.new hn) ⟨l, _, rfl, pk.free hn, upd_same, repL_app (repL_keep pk.at k _ _ q1) (repL_keep pk.at k _ _ q2)⟩
    · exact fin.elim
  · exact fin.elim
/-- + of whole numbers, or of lists -/
def addIL : D → D → M D := fun x y => match x with
  | .lst _ => catL x y
  | _ => addI x y
theorem prim_addIL : Prim2 G (fun x y H Q => (rI0 fun i j => V.int (i + j)) x y H Q ∨ rCat x y H Q) addIL := Prim2.or prim_add prim_catL fun x y => by
  unfold addIL
  cases x <;> first | exact .inr rfl | exact .inl rfl

/-! ### comparisons -/
def ltI : D → D → M D := int2 fun i j => .bl (decide (i < j))
def leI : D → D → M D := int2 fun i j => .bl (decide (i ≤ j))
def gtI : D → D → M D := int2 fun i j => .bl (decide (j < i))
def geI : D → D → M D := int2 fun i j => .bl (decide (j ≤ i))
theorem prim_lt : Prim2 G (rI0 fun i j => .bl (decide (i < j))) ltI := prim_I0 fun _ _ _ _ => rfl
theorem prim_le : Prim2 G (rI0 fun i j => .bl (decide (i ≤ j))) leI := prim_I0 fun _ _ _ _ => rfl
theorem prim_gt : Prim2 G (rI0 fun i j => .bl (decide (j < i))) gtI := prim_I0 fun _ _ _ _ => rfl
theorem prim_ge : Prim2 G (rI0 fun i j => .bl (decide (j ≤ i))) geI := prim_I0 fun _ _ _ _ => rfl

mutual
def toP : D → Option PyData
  | .non => some .none
  | .bl b => some (.bool b)
  | .int i => some (.int i)
  | .str x => some (.str x)
  | .lst xs => (toPL xs).map .list
  | .tup xs => (toPL xs).map .tuple
  | _ => none
def toPL : List D → Option (List PyData)
  | [] => some []
  | d :: ds => match toP d, toPL ds with
    | some x, some xs => some (x :: xs)
    | _, _ => none
end
def eqDat : D → D → M D := fun x y => match toP x, toP y with
  | some a, some b => if (SeqAt.shaped a && SeqAt.shaped b) = true then mret (.bl (PyData.eqv a b)) else mbad
  | _, _ => mbad
def neDat : D → D → M D := fun x y => match toP x, toP y with
  | some a, some b => if (SeqAt.shaped a && SeqAt.shaped b) = true then mret (.bl (!PyData.eqv a b)) else mbad
  | _, _ => mbad

mutual
theorem dp_of {p : Fm} {H : Hp} : ∀ (d : D) (v : V) (x : PyData), Rep G p H d v → toP d = some x → Dp K H v x
  | .non, v, x, q, e => by obtain rfl : v = .non := q; cases e; exact .non
  | .bl b, v, x, q, e => by obtain rfl : v = .bl b := q; cases e; exact .bl b
  | .int i, v, x, q, e => by obtain rfl : v = .int i := q; cases e; exact .int i
  | .str y, v, x, q, e => by obtain rfl : v = .str y := q; cases e; exact .str y
  | .lst ds, v, x, q, e => by
    obtain ⟨a, vs, rfl, h0, h1, q1⟩ := q
    unfold toP at e
    cases h : toPL ds with
    | none => rw [h] at e; cases e
    | some xs => rw [h] at e; cases e; exact .lst (SqL.of h1) (dpAll_of ds vs xs q1 h)
  | .tup ds, v, x, q, e => by
    obtain ⟨a, vs, rfl, h0, h1, q1⟩ := q
    unfold toP at e
    cases h : toPL ds with
    | none => rw [h] at e; cases e
    | some xs => rw [h] at e; cases e; exact .tup (SqT.of h1) (dpAll_of ds vs xs q1 h)
  | .ty _, _, _, _, e => by cases e
  | .cls _, _, _, _, e => by cases e
  | .ins _ _ _, _, _, _, e => by cases e
  | .err _ _ _, _, _, _, e => by cases e
  | .pen, _, _, _, e => by cases e
  | .bag, _, _, _, e => by cases e
  | .self, _, _, _, e => by cases e
theorem dpAll_of {p : Fm} {H : Hp} : ∀ (ds : List D) (vs : List V) (xs : List PyData), RepL G p H ds vs → toPL ds = some xs → DpAll K H vs xs
  | [], vs, xs, q, e => by
    obtain rfl : vs = [] := q
    cases e
    exact .nil
  | d :: ds, vs, xs, q, e => by
    obtain ⟨v, r, rfl, q1, q2⟩ := q
    unfold toPL at e
    cases h1 : toP d with
    | none => rw [h1] at e; cases e
    | some y =>
      cases h2 : toPL ds with
      | none => rw [h1, h2] at e; cases e
      | some ys => rw [h1, h2] at e; cases e; exact .cons (dp_of d v y q1 h1) (dpAll_of ds r ys q2 h2)
end
theorem prim_eqDat : Prim2 G (rEqD K) eqDat := by
  intro W p σ H s x y vx vy Q pk rx ry fin
  unfold eqDat at fin
  cases h1 : toP x with
  | none => rw [h1] at fin; exact False.elim fin
  | some a =>
    cases h2 : toP y with
    | none => rw [h1, h2] at fin; exact False.elim fin
    | some b =>
      rw [h1, h2] at fin
      dsimp only at fin
      by_cases h3 : (SeqAt.shaped a && SeqAt.shaped b) = true
      · rw [if_pos h3] at fin
        rw [Bool.and_eq_true] at h3
        exact ⟨a, b, dp_of x vx a rx h1, dp_of y vy b ry h2, h3.1, h3.2, fin _ H Keep.refl pk rfl⟩
      · rw [if_neg h3] at fin; exact False.elim fin
theorem prim_neDat : Prim2 G (rNeD K) neDat := by
  intro W p σ H s x y vx vy Q pk rx ry fin
  unfold neDat at fin
  cases h1 : toP x with
  | none => rw [h1] at fin; exact False.elim fin
  | some a =>
    cases h2 : toP y with
    | none => rw [h1, h2] at fin; exact False.elim fin
    | some b =>
      rw [h1, h2] at fin
      dsimp only at fin
      by_cases h3 : (SeqAt.shaped a && SeqAt.shaped b) = true
      · rw [if_pos h3] at fin
        rw [Bool.and_eq_true] at h3
        exact ⟨a, b, dp_of x vx a rx h1, dp_of y vy b ry h2, h3.1, h3.2, fin _ H Keep.refl pk rfl⟩
      · rw [if_neg h3] at fin; exact False.elim fin
/-- ==: whole numbers at once, all other data by their form -/
def eqA : D → D → M D := fun x y => match x, y with
  | .int i, .int j => mret (.bl (decide (i = j)))
  | .bl i, .bl j => mret (.bl (decide (i = j)))
  | _, _ => eqDat x y
def neA : D → D → M D := fun x y => match x, y with
  | .int i, .int j => mret (.bl (!decide (i = j)))
  | .bl i, .bl j => mret (.bl (!decide (i = j)))
  | _, _ => neDat x y
theorem dec_vint {i j : Int} : decide (V.int i = V.int j) = decide (i = j) := by
  by_cases h : i = j
  · subst h; simp
  · rw [decide_eq_false h, decide_eq_false fun z => h (V.int.inj z)]
theorem dec_vbl {i j : Bool} : decide (V.bl i = V.bl j) = decide (i = j) := by
  by_cases h : i = j
  · subst h; simp
  · rw [decide_eq_false h, decide_eq_false fun z => h (V.bl.inj z)]
theorem prim_eq : Prim2 G (fun x y H Q => rEq x y H Q ∨ rEqD K x y H Q) eqA := by
  intro W p σ H s x y vx vy Q pk rx ry fin
  unfold eqA at fin
  split at fin
  · rename_i i j
    obtain rfl : vx = .int i := rx
    obtain rfl : vy = .int j := ry
    exact .inl ⟨rfl, by rw [dec_vint]; exact fin _ H Keep.refl pk rfl⟩
  · rename_i i j
    obtain rfl : vx = .bl i := rx
    obtain rfl : vy = .bl j := ry
    exact .inl ⟨rfl, by rw [dec_vbl]; exact fin _ H Keep.refl pk rfl⟩
  · exact .inr (prim_eqDat W p σ H s x y vx vy Q pk rx ry fin)
theorem prim_ne : Prim2 G (fun x y H Q => rNe x y H Q ∨ rNeD K x y H Q) neA := by
  intro W p σ H s x y vx vy Q pk rx ry fin
  unfold neA at fin
  split at fin
  · rename_i i j
    obtain rfl : vx = .int i := rx
    obtain rfl : vy = .int j := ry
    exact .inl ⟨rfl, by rw [dec_vint]; exact fin _ H Keep.refl pk rfl⟩
  · rename_i i j
    obtain rfl : vx = .bl i := rx
    obtain rfl : vy = .bl j := ry
    exact .inl ⟨rfl, by rw [dec_vbl]; exact fin _ H Keep.refl pk rfl⟩
  · exact .inr (prim_neDat W p σ H s x y vx vy Q pk rx ry fin)
theorem op_eqA (hK : X.K = K) (hu : X.A.units + 64 < cLine) : OpR X (compareOp .Eq) (fun x y H Q => rEq x y H Q ∨ rEqD K x y H Q) := by
  subst hK; exact op_eq.or (op_eqD hu)
theorem op_neA (hK : X.K = K) (hu : X.A.units + 64 < cLine) : OpR X (compareOp .NotEq) (fun x y H Q => rNe x y H Q ∨ rNeD K x y H Q) := by
  subst hK; exact op_ne.or (op_neD hu)
/-- x is None; x is True (bools alone) -/
def isNo : D → D → M D := fun x y => match y with
  | .non => (match x with
    | .non => mret (.bl true)
    | _ => mret (.bl false))
  | _ => mbad
def notNo : D → D → M D := fun x y => match y with
  | .non => (match x with
    | .non => mret (.bl false)
    | _ => mret (.bl true))
  | _ => mbad
def isBo : D → D → M D := fun x y => match x, y with
  | .bl i, .bl j => mret (.bl (decide (i = j)))
  | _, _ => mbad
theorem rep_non {p : Fm} {H : Hp} {x : D} {v : V} (h : Rep G p H x v) (hx : x ≠ .non) : v ≠ .non := by
  intro e
  subst e
  cases x <;> first
    | exact hx rfl
    | exact nomatch (show V.non = _ from h)
    | (obtain ⟨_, _, z, _⟩ := h; exact nomatch z)
    | (obtain ⟨_, _, _, z, _⟩ := h; exact nomatch z)
    | (obtain ⟨_, _, _, _, z, _⟩ := h; exact nomatch z)
    | (obtain ⟨_, _, z⟩ := h; exact nomatch z)
theorem prim_isNo : Prim2 G (fun x y H Q => y = .non ∧ Q (.bl (decide (x = .non))) H) isNo := by
  intro W p σ H s x y vx vy Q pk rx ry fin
  unfold isNo at fin
  split at fin
  · refine ⟨ry, ?_⟩
    split at fin
    · obtain rfl : vx = .non := rx
      exact fin _ H Keep.refl pk rfl
    · rename_i h
      rw [decide_eq_false (rep_non rx h)]
      exact fin _ H Keep.refl pk rfl
  · exact False.elim fin
theorem prim_notNo : Prim2 G (fun x y H Q => y = .non ∧ Q (.bl (!decide (x = .non))) H) notNo := by
  intro W p σ H s x y vx vy Q pk rx ry fin
  unfold notNo at fin
  split at fin
  · refine ⟨ry, ?_⟩
    split at fin
    · obtain rfl : vx = .non := rx
      exact fin _ H Keep.refl pk rfl
    · rename_i h
      rw [decide_eq_false (rep_non rx h)]
      exact fin _ H Keep.refl pk rfl
  · exact False.elim fin
theorem prim_isBo : Prim2 G rIsB isBo := by
  intro W p σ H s x y vx vy Q pk rx ry fin
  unfold isBo at fin
  split at fin
  · exact ⟨_, _, rx, ry, fin _ H Keep.refl pk rfl⟩
  · exact False.elim fin

/-! ### tests -/
def asB (d : D) : M Bool := match d with
  | .bl b => mret b
  | _ => mbad
theorem run_tB (h : RunG G W (RelE G) te fe) : RunG G W RelB (tB te) (fun ρ => mbind (fe ρ) asB) := by
  intro p σ H ρ s Q e pk fin
  refine h p σ H ρ s _ e pk (fin.step fun x s1 vx H1 k1 pk1 rx fin1 => ?_)
  unfold asB at fin1
  split at fin1
  · exact ⟨_, rx, fin1 _ H1 Keep.refl pk1 rfl⟩
  · exact False.elim fin1
theorem dt_val {e : Expr} (h : DE G X W e te fe) (he : ∀ whole, isTrue e X.env whole = (do let v ← whole; standAt e.pos; holding [v] (truthy v)) := by intro _; rfl) : DT G X W e (tB te) (fun ρ => mbind (fe ρ) asB) :=
  ⟨pt_val h.pe he, run_tB h.run⟩
theorem dt_cmp {op : CmpOp} (ho : OpR X (compareOp op) r) (hp : Prim2 G r f) (ha : DE G X W a ta fa) (hb : DE G X W b tb fb) (hm : behindInMarks op b = false := by first | exact nomark _ | rfl) :
    DT G X W (.Compare a [op] [b] pos) (tTest (tOp r ta tb)) (fun ρ => mbind (mbind (fa ρ) fun x => mbind (fb ρ) fun y => f x y) asB) :=
  ⟨pt_cmpR ho ha.pe hb.pe hm, run_tB (te := tOp r ta tb) (run_op hp ha.run hb.run)⟩
variable {A1 A2 : TT} {f1 f2 : Loc → M Bool} {rest : List Expr}
theorem dw_and1 (ha : DT G X W a A1 f1) : DW G X W (.BoolOp .And [a] pos) A1 f1 := ⟨pw_and1 ha.pt, ha.run⟩
theorem dw_or1 (ha : DT G X W a A1 f1) : DW G X W (.BoolOp .Or [a] pos) A1 f1 := ⟨pw_or1 ha.pt, ha.run⟩
theorem run_and (h1 : RunG G W RelB A1 f1) (h2 : RunG G W RelB A2 f2) : RunG G W RelB (tAnd A1 A2) (fun ρ => mbind (f1 ρ) fun c => if c = true then f2 ρ else mret false) := by
  intro p σ H ρ s Q e pk fin
  refine h1 p σ H ρ s _ e pk (fin.step fun x s1 b H1 k1 pk1 rx fin1 => ?_)
  obtain rfl : b = x := rx
  cases b with
  | true =>
    show (if true = true then A2 σ H1 Q else Q false H1)
    rw [if_pos rfl] at fin1 ⊢
    exact h2 p σ H1 ρ s1 Q (e.keep pk.at k1) pk1 fin1
  | false =>
    show (if false = true then A2 σ H1 Q else Q false H1)
    rw [if_neg Bool.false_ne_true] at fin1 ⊢
    exact fin1 _ H1 Keep.refl pk1 rfl
theorem run_or (h1 : RunG G W RelB A1 f1) (h2 : RunG G W RelB A2 f2) : RunG G W RelB (tOr A1 A2) (fun ρ => mbind (f1 ρ) fun c => if c = true then mret true else f2 ρ) := by
  intro p σ H ρ s Q e pk fin
  refine h1 p σ H ρ s _ e pk (fin.step fun x s1 b H1 k1 pk1 rx fin1 => ?_)
  obtain rfl : b = x := rx
  cases b with
  | true =>
    show (if true = true then Q true H1 else A2 σ H1 Q)
    rw [if_pos rfl] at fin1 ⊢
    exact fin1 _ H1 Keep.refl pk1 rfl
  | false =>
    show (if false = true then Q true H1 else A2 σ H1 Q)
    rw [if_neg Bool.false_ne_true] at fin1 ⊢
    exact h2 p σ H1 ρ s1 Q (e.keep pk.at k1) pk1 fin1
theorem dw_and (ha : DT G X W a A1 f1) (hb : DW G X W (.BoolOp .And (b :: rest) pos) A2 f2) : DW G X W (.BoolOp .And (a :: b :: rest) pos) (tAnd A1 A2) (fun ρ => mbind (f1 ρ) fun c => if c = true then f2 ρ else mret false) := ⟨pw_and ha.pt hb.pw, run_and ha.run hb.run⟩
theorem dw_or (ha : DT G X W a A1 f1) (hb : DW G X W (.BoolOp .Or (b :: rest) pos) A2 f2) : DW G X W (.BoolOp .Or (a :: b :: rest) pos) (tOr A1 A2) (fun ρ => mbind (f1 ρ) fun c => if c = true then mret true else f2 ρ) := ⟨pw_or ha.pt hb.pw, run_or ha.run hb.run⟩
theorem dt_w {e : Expr} (h : DW G X W e A1 f1) : DT G X W e A1 f1 := ⟨h.pw.pt, h.run⟩
theorem dt_not (ha : DT G X W a A1 f1) : DT G X W (.UnaryOp .Not a pos) (tNot A1) (fun ρ => mbind (f1 ρ) fun c => mret (!c)) := by
  refine ⟨pt_not ha.pt, fun p σ H ρ s Q e pk fin => ?_⟩
  refine ha.run p σ H ρ s _ e pk (fin.step fun x s1 b H1 k1 pk1 rx fin1 => ?_)
  obtain rfl : b = x := rx
  exact fin1 _ H1 Keep.refl pk1 rfl
/-- and, or, not as values (of bools) -/
theorem de_one {op} (h : DE G X W a ta fa) : DE G X W (.BoolOp op [a] pos) ta fa := ⟨pe_one h.pe, h.run⟩
theorem de_and (ha : DE G X W a ta fa) (hb : DE G X W (.BoolOp .And (b :: rest) pos) tb fb) : DE G X W (.BoolOp .And (a :: b :: rest) pos) (tAndV ta tb) (fun ρ => mbind (mbind (fa ρ) asB) fun c => if c = true then fb ρ else mret (.bl false)) := by
  refine ⟨pe_and ha.pe hb.pe, fun p σ H ρ s Q e pk fin => ?_⟩
  refine (run_tB ha.run) p σ H ρ s (fun c H1 => if c = true then tb σ H1 Q else Q (.bl false) H1) e pk (fin.step fun x s1 b H1 k1 pk1 rx fin1 => ?_)
  obtain rfl : b = x := rx
  cases b with
  | true =>
    rw [if_pos rfl] at fin1 ⊢
    exact hb.run p σ H1 ρ s1 Q (e.keep pk.at k1) pk1 fin1
  | false =>
    rw [if_neg Bool.false_ne_true] at fin1 ⊢
    exact fin1 _ H1 Keep.refl pk1 rfl
theorem de_or (ha : DE G X W a ta fa) (hb : DE G X W (.BoolOp .Or (b :: rest) pos) tb fb) : DE G X W (.BoolOp .Or (a :: b :: rest) pos) (tOrV ta tb) (fun ρ => mbind (mbind (fa ρ) asB) fun c => if c = true then mret (.bl true) else fb ρ) := by
  refine ⟨pe_or ha.pe hb.pe, fun p σ H ρ s Q e pk fin => ?_⟩
  refine (run_tB ha.run) p σ H ρ s (fun c H1 => if c = true then Q (.bl true) H1 else tb σ H1 Q) e pk (fin.step fun x s1 b H1 k1 pk1 rx fin1 => ?_)
  obtain rfl : b = x := rx
  cases b with
  | true =>
    rw [if_pos rfl] at fin1 ⊢
    exact fin1 _ H1 Keep.refl pk1 rfl
  | false =>
    rw [if_neg Bool.false_ne_true] at fin1 ⊢
    exact hb.run p σ H1 ρ s1 Q (e.keep pk.at k1) pk1 fin1
theorem de_not (ha : DE G X W a ta fa) : DE G X W (.UnaryOp .Not a pos) (tNotV ta) (fun ρ => mbind (mbind (fa ρ) asB) fun c => mret (.bl (!c))) := by
  refine ⟨pe_not ha.pe, fun p σ H ρ s Q e pk fin => ?_⟩
  refine (run_tB ha.run) p σ H ρ s (fun c H1 => Q (.bl (!c)) H1) e pk (fin.step fun x s1 b H1 k1 pk1 rx fin1 => ?_)
  obtain rfl : b = x := rx
  exact fin1 _ H1 Keep.refl pk1 rfl
theorem de_ifExp (hc : DT G X W c A1 f1) (ha : DE G X W a ta fa) (hb : DE G X W b tb fb) : DE G X W (.IfExp c a b pos) (tIf A1 ta tb) (fun ρ => mbind (f1 ρ) fun c => if c = true then fa ρ else fb ρ) := by
  refine ⟨pe_ifExp hc.pt ha.pe hb.pe, fun p σ H ρ s Q e pk fin => ?_⟩
  refine hc.run p σ H ρ s _ e pk (fin.step fun x s1 b H1 k1 pk1 rx fin1 => ?_)
  obtain rfl : b = x := rx
  cases b with
  | true =>
    rw [if_pos rfl] at fin1 ⊢
    exact ha.run p σ H1 ρ s1 Q (e.keep pk.at k1) pk1 fin1
  | false =>
    rw [if_neg Bool.false_ne_true] at fin1 ⊢
    exact hb.run p σ H1 ρ s1 Q (e.keep pk.at k1) pk1 fin1
/-- a op b op' c -/
theorem run_chain {r' : R2} {f' : D → D → M D} (hp : Prim2 G r f) (hp' : Prim2 G r' f') (ha : RunG G W (RelE G) ta fa) (hb : RunG G W (RelE G) tb fb) (hc : RunG G W (RelE G) tc fc) :
    RunG G W (RelE G) (tChain r r' ta tb tc) (fun ρ => mbind (fa ρ) fun x => mbind (fb ρ) fun y => mbind (mbind (f x y) asB) fun k => if k = true then mbind (fc ρ) fun z => f' y z else mret (.bl false)) := by
  intro p σ H ρ s Q e pk fin
  refine ha p σ H ρ s _ e pk (fin.step fun x s1 vx H1 k1 pk1 rx fin1 => hb p σ H1 ρ s1 _ (e.keep pk.at k1) pk1 (fin1.step fun y s2 vy H2 k2 pk2 ry fin2 => ?_))
  have e2 := (e.keep pk.at k1).keep pk1.at k2
  refine hp W p σ H2 s2 x y vx vy _ pk2 (rep_keep pk1.at k2 x vx rx) ry ((fin2.step (RA := RelB) (R := fun k H3 => if k = true then tc σ H3 fun w' H4 => r' vy w' H4 Q else Q (.bl false) H3) fun k s3 b H3 k3 pk3 rk fin3 => ?_).step fun z s3 vz H3 k3 pk3 rz fin3 => ?_)
  · obtain rfl : b = k := rk
    cases b with
    | true =>
      rw [if_pos rfl] at fin3 ⊢
      exact hc p σ H3 ρ s3 _ (e2.keep pk2.at k3) pk3 (fin3.step fun z s4 vz H4 k4 pk4 rz fin4 => hp' W p σ H4 s4 y z vy vz Q pk4 (rep_keep pk2.at (k3.trans k4) y vy ry) rz fin4)
    | false =>
      rw [if_neg Bool.false_ne_true] at fin3 ⊢
      exact fin3 _ H3 Keep.refl pk3 rfl
  · unfold asB at fin3
    split at fin3
    · exact ⟨_, rz, fin3 _ H3 Keep.refl pk3 rfl⟩
    · exact False.elim fin3
theorem de_chain {op op' : CmpOp} {r' : R2} {f' : D → D → M D} (ho : OpR X (compareOp op) r) (ho' : OpR X (compareOp op') r') (hp : Prim2 G r f) (hp' : Prim2 G r' f') (ha : DE G X W a ta fa) (hb : DE G X W b tb fb) (hc : DE G X W c tc fc)
    (hm : lastMarks [op, op'] [b, c] = false := by with_unfolding_all rfl) : DE G X W (.Compare a [op, op'] [b, c] pos) (tChain r r' ta tb tc) (fun ρ => mbind (fa ρ) fun x => mbind (fb ρ) fun y => mbind (mbind (f x y) asB) fun k => if k = true then mbind (fc ρ) fun z => f' y z else mret (.bl false)) :=
  ⟨pe_chain ho ho' ha.pe hb.pe hc.pe hm, run_chain hp hp' ha.run hb.run hc.run⟩

/-! ### arguments, displays, items -/
variable {e : Expr} {es : List Expr} {tA : TA} {fA : Loc → M (List D)}
theorem da_nil : DA G X W [] tNil (fun _ => mret []) := ⟨pa_nil, fun _ _ H _ _ _ _ pk fin => fin [] H Keep.refl pk rfl⟩
theorem da_cons (ha : DE G X W e te fe) (hr : DA G X W es tA fA) (hs : starEach (e :: es) X.env = (false, eval e X.env) :: starEach es X.env := by rfl) : DA G X W (e :: es) (tCons te tA) (fun ρ => mbind (fe ρ) fun x => mbind (fA ρ) fun xs => mret (x :: xs)) := by
  refine ⟨pa_cons ha.pe hr.pa hs, fun p σ H ρ s Q e pk fin => ?_⟩
  exact ha.run p σ H ρ s _ e pk (fin.step fun x s1 vx H1 k1 pk1 rx fin1 => hr.run p σ H1 ρ s1 _ (e.keep pk.at k1) pk1 (fin1.step fun xs s2 vs H2 k2 pk2 rs fin2 =>
    fin2 _ H2 Keep.refl pk2 ⟨vx, vs, rfl, rep_keep pk1.at k2 x vx rx, rs⟩))
def tupD (xs : List D) : M D := if decide (xs.length ≤ 100000) = true then mret (.tup xs) else mbad
def lstD (xs : List D) : M D := if decide (xs.length ≤ 100000) = true then mret (.lst xs) else mbad
theorem de_tup {x1} (h : DA G X W es tA fA) : DE G X W (.Tuple es x1 pos) (tTup tA) (fun ρ => mbind (fA ρ) tupD) := by
  refine ⟨pe_tup h.pa, fun p σ H ρ s Q e pk fin => ?_⟩
  refine h.run p σ H ρ s _ e pk (fin.step fun xs s1 vs H1 k1 pk1 rs fin1 => ?_)
  unfold tupD at fin1
  split at fin1
  · rename_i hl
    refine ⟨by rw [← repL_len rs]; exact Nat.le_trans (of_decide_eq_true hl) (by decide), fun q hq => ?_⟩
    have k : Keep p H1 (upd H1 q (.tup vs)) := Keep.new hq
    exact fin1 _ _ k (pk1.new hq) ⟨q, vs, rfl, pk1.free hq, upd_same, repL_keep pk1.at k _ _ rs⟩
  · exact False.elim fin1
theorem de_lst (h : DA G X W es tA fA) : DE G X W (.List es pos) (tLst tA) (fun ρ => mbind (fA ρ) lstD) := by
  refine ⟨pe_lst h.pa, fun p σ H ρ s Q e pk fin => ?_⟩
  refine h.run p σ H ρ s _ e pk (fin.step fun xs s1 vs H1 k1 pk1 rs fin1 => ?_)
  unfold lstD at fin1
  split at fin1
  · rename_i hl
    refine ⟨by rw [← repL_len rs]; exact Nat.le_trans (of_decide_eq_true hl) (by decide), fun q hq => ?_⟩
    have k : Keep p H1 (upd H1 q (.lst vs)) := Keep.new hq
    exact fin1 _ _ k (pk1.new hq) ⟨q, vs, rfl, pk1.free hq, upd_same, repL_keep pk1.at k _ _ rs⟩
  · exact False.elim fin1
theorem atI_rep {p : Fm} {H : Hp} {ds : List D} {vs : List V} {i : Int} {d : D} (q : RepL G p H ds vs) (h : atI ds i = some d) : ∃ v, atI vs i = some v ∧ Rep G p H d v := by
  unfold atI at h ⊢
  rw [← repL_len q]
  cases e : ixN ds.length i with
  | none => rw [e] at h; cases h
  | some j =>
    rw [e] at h
    exact repL_get (i := j) q h
def itemD : D → D → M D := fun x y => match x, y with
  | .lst xs, .int i => (match atI xs i with
    | some d => mret d
    | none => mbad)
  | .tup xs, .int i => (match atI xs i with
    | some d => mret d
    | none => mbad)
  | _, _ => mbad
theorem prim_item : Prim2 G (fun x y H Q => rIxL K x y H Q ∨ rIxT K x y H Q) itemD := by
  intro W p σ H s x y vx vy Q pk rx ry fin
  unfold itemD at fin
  split at fin
  · rename_i xs i
    obtain ⟨a, vs, rfl, h0, h1, q1⟩ := rx
    obtain rfl : vy = .int i := ry
    cases h : atI xs i with
    | none => rw [h] at fin; exact False.elim fin
    | some d =>
      rw [h] at fin
      obtain ⟨v, h2, h3⟩ := atI_rep q1 h
      exact .inl ⟨a, vs, i, v, rfl, rfl, SqL.of h1, h2, fin v H Keep.refl pk h3⟩
  · rename_i xs i
    obtain ⟨a, vs, rfl, h0, h1, q1⟩ := rx
    obtain rfl : vy = .int i := ry
    cases h : atI xs i with
    | none => rw [h] at fin; exact False.elim fin
    | some d =>
      rw [h] at fin
      obtain ⟨v, h2, h3⟩ := atI_rep q1 h
      exact .inr ⟨a, vs, i, v, rfl, rfl, SqT.of h1, h2, fin v H Keep.refl pk h3⟩
  · exact False.elim fin
theorem ix_any (hK : X.K = K) : IxR X (fun x y H Q => rIxL K x y H Q ∨ rIxT K x y H Q) := by subst hK; exact ix_list.or ix_tup
theorem de_ix (hK : X.K = K) (ha : DE G X W a ta fa) (hb : DE G X W b tb fb) (hs : PlainIx b := by exact fun _ _ => rfl) : DE G X W (.Subscript a b pos) (tOp (fun x y H Q => rIxL K x y H Q ∨ rIxT K x y H Q) ta tb) (fun ρ => mbind (fa ρ) fun x => mbind (fb ρ) fun y => itemD x y) :=
  ⟨pe_ix (ix_any hK) ha.pe hb.pe hs, run_op prim_item ha.run hb.run⟩

/-! ### calls -/
/-- a def's promise by a function on trees -/
def spM (G : Gt) (n : Nat) (m : List D → M D) : Sp := fun vs H Q E => vs.length = n ∧ ∃ (p : Fm) (ds : List D) (s : Pen), RepL G p H ds vs ∧ PenOk G p H s ∧ FinG G (fun c d _ H' => E c d H') (RelE G) p [] H Q (m ds s)
theorem FinG.wx {α β : Type} {W W' : WX} {R : Fm → Hp → α → β → Prop} {p : Fm} {σ σ' : St} {H : Hp} {Q : β → Hp → Prop} {o : Out α} (h : FinG G W R p σ H Q o) (hw : ∀ c d H', W c d σ H' → W' c d σ' H') : FinG G W' R p σ' H Q o := by
  cases o with
  | ok a s => exact h
  | exc c ns xs s => exact fun dd H' k pk x => hw _ _ _ (h dd H' k pk x)
  | bad => exact h
theorem run_call {n : Nat} {m : List D → M D} (ha : RunG G W (RelA G) tA fA) (hl : ∀ ρ s ds s', fA ρ s = .ok ds s' → ds.length = n) : RunG G W (RelE G) (tCallS (spM G n m) (WE W) tA) (fun ρ => mbind (fA ρ) m) := by
  intro p σ H ρ s Q e pk fin
  show tA σ H fun vs H1 => spM G n m vs H1 Q (WE W σ)
  have fin' : FinG G W (RelE G) p σ H Q (obind (fA ρ s) m) := fin
  refine ha p σ H ρ s _ e pk ?_
  cases h : fA ρ s with
  | ok ds s1 =>
    rw [h] at fin'
    intro vs H1 k1 pk1 rs
    exact ⟨by rw [← repL_len rs]; exact hl ρ s ds s1 h, p, ds, s1, rs, pk1, (FinG.keep k1 fin').wx fun _ _ _ z => z⟩
  | exc c ns xs s1 => rw [h] at fin'; exact fin'
  | bad => rw [h] at fin'; exact fin'
/-- how many arguments are written -/
def LenA (fA : Loc → M (List D)) (n : Nat) : Prop := ∀ ρ s ds s', fA ρ s = .ok ds s' → ds.length = n
theorem len_nil : LenA (fun _ => mret []) 0 := fun _ _ _ _ h => by cases h; rfl
theorem len_cons {n : Nat} (h : LenA fA n) : LenA (fun ρ => mbind (fe ρ) fun x => mbind (fA ρ) fun xs => mret (x :: xs)) (n + 1) := by
  intro ρ s ds s' e
  have e : obind (fe ρ s) (fun x => mbind (fA ρ) fun xs => mret (x :: xs)) = .ok ds s' := e
  cases h1 : fe ρ s with
  | ok x s1 =>
    rw [h1] at e
    have e : obind (fA ρ s1) (fun xs => mret (x :: xs)) = .ok ds s' := e
    cases h2 : fA ρ s1 with
    | ok xs s2 =>
      rw [h2] at e
      cases e
      rw [List.length_cons, h ρ s1 xs _ h2]
    | exc c ns xs s2 => rw [h2] at e; cases e
    | bad => rw [h2] at e; cases e
  | exc c ns xs s2 => rw [h1] at e; cases e
  | bad => rw [h1] at e; cases e
theorem de_call {k n : Nat} {f : Addr} {fd : FuncData} {ps : List Str} {m : List D → M D} {x : Str} {p0 : Pos} (F : FnOk X.prog X.w X.K X.mg X.base (L2.CX X.prog X.w) k f fd ps (spM G n m)) (hr : Room k X.A) (tk : Takes X W) (hg : Gl X x) (hm : X.mg x = some (.ref f)) (hk : PySem.W.keepIn X.K (.ref f) = true) (hb : Binds X.K fd ps [])
    (ha : DA G X W (e :: es) tA fA) (hl : LenA fA n) (hdb : (x == ("__debug__" : Str)) = false := by decide) (he : starEach (e :: es) X.env = (false, eval e X.env) :: starEach es X.env := by rfl) (hpl : (backTo pos (starEach es X.env)).any (·.1) = false := by rfl) :
    DE G X W (.Call (.Name x p0) (e :: es) [] pos) (tCallS (spM G n m) (WE W) tA) (fun ρ => mbind (fA ρ) m) :=
  ⟨pe_callS F hr hg hm hk hb (fun σ => passAt tk σ) ha.pa hdb he hpl, run_call ha.run hl⟩
/-- a built-in function, a built-in class, a function of a module -/
theorem run_prim {rl : List V → Hp → VK → Prop} {g : List D → M D} (hp : PrimL G rl g) (ha : RunG G W (RelA G) tA fA) : RunG G W (RelE G) (tCB rl tA) (fun ρ => mbind (fA ρ) g) := by
  intro p σ H ρ s Q e pk fin
  exact ha p σ H ρ s _ e pk (fin.step fun xs s1 vs H1 k1 pk1 rs fin1 => hp W p σ H1 s1 xs vs Q pk1 rs fin1)
theorem de_callB {x : Str} {p0 : Pos} {id : String} {rl : List V → Hp → VK → Prop} {g : List D → M D} (hc : CallR X (.builtin id) rl) (hp : PrimL G rl g) (hg : Gl X x) (hm : X.mg x = none) (hv : bootBuiltins x = some (.builtin id)) (ha : DA G X W (e :: es) tA fA) (hn : x ≠ "__name__" := by decide) (hdb : (x == ("__debug__" : Str)) = false := by decide)
    (he : starEach (e :: es) X.env = (false, eval e X.env) :: starEach es X.env := by rfl) (hpl : (backTo pos (starEach es X.env)).any (·.1) = false := by rfl) : DE G X W (.Call (.Name x p0) (e :: es) [] pos) (tCB rl tA) (fun ρ => mbind (fA ρ) g) :=
  ⟨pe_callB hc hg hm hv ha.pa hn hdb he hpl, run_prim hp ha.run⟩
theorem de_callTy {x : Str} {p0 : Pos} {T : String} {rl : List V → Hp → VK → Prop} {g : List D → M D} (hc : CallR X (.type T) rl) (hp : PrimL G rl g) (hg : Gl X x) (hm : X.mg x = none) (hv : bootBuiltins x = some (.type T)) (ha : DA G X W (e :: es) tA fA) (hn : x ≠ "__name__" := by decide) (hdb : (x == ("__debug__" : Str)) = false := by decide)
    (he : starEach (e :: es) X.env = (false, eval e X.env) :: starEach es X.env := by rfl) (hpl : (backTo pos (starEach es X.env)).any (·.1) = false := by rfl) : DE G X W (.Call (.Name x p0) (e :: es) [] pos) (tCB rl tA) (fun ρ => mbind (fA ρ) g) :=
  ⟨pe_callTy hc hg hm hv ha.pa hn hdb he hpl, run_prim hp ha.run⟩
theorem de_callBfun {x : Str} {p0 : Pos} {id : String} {rl : List V → Hp → VK → Prop} {g : List D → M D} (hc : CallR X (.builtin id) rl) (hp : PrimL G rl g) (hg : Gl X x) (hm : X.mg x = some (.builtin id)) (ha : DA G X W (e :: es) tA fA) (hdb : (x == ("__debug__" : Str)) = false := by decide)
    (he : starEach (e :: es) X.env = (false, eval e X.env) :: starEach es X.env := by rfl) (hpl : (backTo pos (starEach es X.env)).any (·.1) = false := by rfl) : DE G X W (.Call (.Name x p0) (e :: es) [] pos) (tCB rl tA) (fun ρ => mbind (fA ρ) g) :=
  ⟨pe_callBfun hc hg hm ha.pa hdb he hpl, run_prim hp ha.run⟩
end
end Tw

set_option Elab.async false
set_option linter.all false
set_option maxRecDepth 100000
set_option maxHeartbeats 4000000
namespace Tw
open PySem L2
inductive OutS where
  | nx (ρ : Loc) (s : Pen)
  | ret (d : D) (s : Pen)
  | bk (ρ : Loc) (s : Pen)
  | ct (ρ : Loc) (s : Pen)
  | exc (c : Nat) (ns : List Str) (xs : List D) (ρ : Loc) (s : Pen)
  | bad
abbrev MS := Loc → Pen → OutS
section
variable {K : PySem.W.Frag} {G : Gt} {W : WX} {X : Cx}
def FinS (G : Gt) (W : WX) (p : Fm) (H : Hp) (Z : Ends) : OutS → Prop
  | .nx ρ s => ∀ σ' H', Keep p H H' → PenOk G p H' s → EnvOk G p H' σ' ρ → Z.nx σ' H'
  | .ret d s => ∀ v H', Keep p H H' → PenOk G p H' s → Rep G p H' d v → Z.rt v H'
  | .bk ρ s => ∀ σ' H', Keep p H H' → PenOk G p H' s → EnvOk G p H' σ' ρ → Z.bk σ' H'
  | .ct ρ s => ∀ σ' H', Keep p H H' → PenOk G p H' s → EnvOk G p H' σ' ρ → Z.ct σ' H'
  | .exc c ns xs ρ s => ∀ dd σ' H', Keep p H H' → PenOk G p H' s → EnvOk G p H' σ' ρ → ExcOk G p H' ns xs dd → W (.ref (G.cls c)) dd σ' H'
  | .bad => False
theorem FinS.keep {p : Fm} {H H' : Hp} {Z : Ends} {o : OutS} (k : Keep p H H') (h : FinS G W p H Z o) : FinS G W p H' Z o := by
  cases o with
  | nx ρ s => exact fun σ' H2 k2 => h σ' H2 (k.trans k2)
  | ret d s => exact fun v H2 k2 => h v H2 (k.trans k2)
  | bk ρ s => exact fun σ' H2 k2 => h σ' H2 (k.trans k2)
  | ct ρ s => exact fun σ' H2 k2 => h σ' H2 (k.trans k2)
  | exc c ns xs ρ s => exact fun dd σ' H2 k2 => h dd σ' H2 (k.trans k2)
  | bad => exact h
def RunS (G : Gt) (W : WX) (t : TS) (m : MS) : Prop := ∀ (p : Fm) (σ : St) (H : Hp) (ρ : Loc) (s : Pen) (Z : Ends), EnvOk G p H σ ρ → PenOk G p H s → FinS G W p H Z (m ρ s) → t Z σ H
structure DS (G : Gt) (X : Cx) (W : WX) (st : Stmt) (t : TS) (m : MS) : Prop where
  ps : PS X st t
  run : RunS G W t m
structure DSs (G : Gt) (X : Cx) (W : WX) (st : List Stmt) (t : TS) (m : MS) : Prop where
  ps : PSs X st t
  run : RunS G W t m
variable {st : Stmt} {sts : List Stmt} {t u tb : TS} {m m' mb : MS} {a b c e : Expr} {ta te : TE} {fa fe : Loc → M D} {pos : Pos} {es : List Expr} {tA : TA} {fA : Loc → M (List D)} {A1 : TT} {f1 : Loc → M Bool}

def sseq (m m' : MS) : MS := fun ρ s => match m ρ s with
  | .nx ρ' s' => m' ρ' s'
  | .ret d s' => .ret d s'
  | .bk ρ' s' => .bk ρ' s'
  | .ct ρ' s' => .ct ρ' s'
  | .exc c ns xs ρ' s' => .exc c ns xs ρ' s'
  | .bad => .bad
theorem run_seq (h1 : RunS G W t m) (h2 : RunS G W u m') : RunS G W (tSeq t u) (sseq m m') := by
  intro p σ H ρ s Z e pk fin
  refine h1 p σ H ρ s _ e pk ?_
  unfold sseq at fin
  cases h : m ρ s with
  | nx ρ' s' => rw [h] at fin; exact fun σ' H' k pk' e' => h2 p σ' H' ρ' s' Z e' pk' (FinS.keep k fin)
  | ret d s' => rw [h] at fin; exact fin
  | bk ρ' s' => rw [h] at fin; exact fin
  | ct ρ' s' => rw [h] at fin; exact fin
  | exc c ns xs ρ' s' => rw [h] at fin; exact fin
  | bad => rw [h] at fin; exact fin
theorem dss_nil : DSs G X W [] tNext (fun ρ s => .nx ρ s) := ⟨pss_nil, fun p σ H ρ s Z e pk fin => fin σ H Keep.refl pk e⟩
theorem dss_cons (h1 : DS G X W st t m) (h2 : DSs G X W sts u m') : DSs G X W (st :: sts) (tSeq t u) (sseq m m') := ⟨pss_cons h1.ps h2.ps, run_seq h1.run h2.run⟩
theorem dss_one (h1 : DS G X W st t m) : DSs G X W [st] t m := ⟨pss_one h1.ps, h1.run⟩
theorem ds_pass : DS G X W (.Pass pos) tNext (fun ρ s => .nx ρ s) := ⟨ps_pass, fun p σ H ρ s Z e pk fin => fin σ H Keep.refl pk e⟩
theorem ds_break : DS G X W (.Break pos) tBreak (fun ρ s => .bk ρ s) := ⟨ps_break, fun p σ H ρ s Z e pk fin => fin σ H Keep.refl pk e⟩
theorem ds_continue : DS G X W (.Continue pos) tCont (fun ρ s => .ct ρ s) := ⟨ps_continue, fun p σ H ρ s Z e pk fin => fin σ H Keep.refl pk e⟩
/-- an expression's outcome, then -/
def sof {α : Type} (o : Out α) (ρ : Loc) (k : α → Pen → OutS) : OutS := match o with
  | .ok a s => k a s
  | .exc c ns xs s => .exc c ns xs ρ s
  | .bad => .bad
theorem FinS.step {α β : Type} {R : Fm → Hp → α → β → Prop} {p : Fm} {σ : St} {H : Hp} {ρ : Loc} {Z : Ends} {o : Out α} {k : α → Pen → OutS} {Q : β → Hp → Prop} (fin : FinS G W p H Z (sof o ρ k)) (e : ∀ H1 s1, Keep p H H1 → PenOk G p H1 s1 → EnvOk G p H1 σ ρ)
    (hb : ∀ a s1 b H1, Keep p H H1 → PenOk G p H1 s1 → R p H1 a b → FinS G W p H1 Z (k a s1) → Q b H1) : FinG G W R p σ H Q o := by
  cases o with
  | ok a s1 => exact fun b H1 k1 pk1 r => hb a s1 b H1 k1 pk1 r (FinS.keep k1 fin)
  | exc c ns xs s1 => exact fun dd H1 k1 pk1 x => fin dd σ H1 k1 pk1 (e H1 s1 k1 pk1) x
  | bad => exact fin
theorem ds_expr (he : DE G X W e te fe) (hs : swapsWith e none pos.line X.env = pure false := by rfl) : DS G X W (.Expr e pos) (tDrop te) (fun ρ s => sof (fe ρ s) ρ fun _ s' => .nx ρ s') := by
  refine ⟨ps_expr he.pe hs, fun p σ H ρ s Z e pk fin => ?_⟩
  exact he.run p σ H ρ s _ e pk (fin.step (fun H1 s1 k1 pk1 => e.keep pk.at k1) fun d s1 v H1 k1 pk1 rd fin1 => fin1 σ H1 Keep.refl pk1 (e.keep pk.at k1))
theorem ds_ret (he : DE G X W e te fe) : DS G X W (.Return (some e) pos) (tRet te) (fun ρ s => sof (fe ρ s) ρ fun d s' => .ret d s') := by
  refine ⟨ps_ret he.pe, fun p σ H ρ s Z e pk fin => ?_⟩
  exact he.run p σ H ρ s _ e pk (fin.step (fun H1 s1 k1 pk1 => e.keep pk.at k1) fun d s1 v H1 k1 pk1 rd fin1 => fin1 v H1 Keep.refl pk1 rd)
theorem ds_retN : DS G X W (.Return none pos) tRetN (fun _ s => .ret .non s) := ⟨ps_retN, fun p σ H ρ s Z e pk fin => fin _ H Keep.refl pk rfl⟩
theorem ds_if {x y : List Stmt} (hc : DT G X W c A1 f1) (ha : DSs G X W x t m) (hb : DSs G X W y u m') : DS G X W (.If c x y pos) (tIfS A1 t u) (fun ρ s => sof (f1 ρ s) ρ fun k s' => if k = true then m ρ s' else m' ρ s') := by
  refine ⟨ps_if hc.pt ha.ps hb.ps, fun p σ H ρ s Z e pk fin => ?_⟩
  refine hc.run p σ H ρ s _ e pk (fin.step (fun H1 s1 k1 pk1 => e.keep pk.at k1) fun x s1 b H1 k1 pk1 rx fin1 => ?_)
  obtain rfl : b = x := rx
  cases b with
  | true =>
    rw [if_pos rfl] at fin1 ⊢
    exact ha.run p σ H1 ρ s1 Z (e.keep pk.at k1) pk1 fin1
  | false =>
    rw [if_neg Bool.false_ne_true] at fin1 ⊢
    exact hb.run p σ H1 ρ s1 Z (e.keep pk.at k1) pk1 fin1

/-! ### targets -/
/-- only the slots in vs differ -/
def Off (vs : List Nat) (σ σ' : St) : Prop := σ'.length = σ.length ∧ ∀ i, i ∉ vs → σ'[i]? = σ[i]?
def RunGt (G : Gt) (vs : List Nat) (g : TG) (gm : D → Loc → Option Loc) : Prop :=
  ∀ (p : Fm) (σ : St) (H : Hp) (ρ : Loc) (d : D) (v : V) (Q : St → Hp → Prop), EnvOk G p H σ ρ → Rep G p H d v → (match gm d ρ with | some ρ' => ∀ σ', EnvOk G p H σ' ρ' → Off vs σ σ' → Q σ' H | none => False) → g v σ H Q
def RunGs (G : Gt) (vs : List Nat) (g : TGs) (gm : List D → Loc → Option Loc) : Prop :=
  ∀ (p : Fm) (σ : St) (H : Hp) (ρ : Loc) (ds : List D) (us : List V) (Q : St → Hp → Prop), EnvOk G p H σ ρ → RepL G p H ds us → (match gm ds ρ with | some ρ' => ∀ σ', EnvOk G p H σ' ρ' → Off vs σ σ' → Q σ' H | none => False) → g us σ H Q
structure DG (G : Gt) (X : Cx) (vs : List Nat) (tg : Expr) (g : TG) (gm : D → Loc → Option Loc) : Prop where
  pg : PG X tg g
  run : RunGt G vs g gm
structure DGs (G : Gt) (X : Cx) (vs : List Nat) (tg : List Expr) (g : TGs) (gm : List D → Loc → Option Loc) : Prop where
  pg : PGs X tg g
  run : RunGs G vs g gm
theorem off_set {σ : St} {i : Nat} {o : Option V} {vs : List Nat} (h : i ∈ vs) : Off vs σ (σ.set i o) := ⟨by simp, fun j hj => by
  rw [List.getElem?_set, if_neg]
  intro e
  subst e
  exact hj h⟩
theorem Off.trans {vs : List Nat} {σ σ1 σ2 : St} (a : Off vs σ σ1) (b : Off vs σ1 σ2) : Off vs σ σ2 := ⟨b.1.trans a.1, fun i hi => (b.2 i hi).trans (a.2 i hi)⟩
theorem Off.refl {vs : List Nat} {σ : St} : Off vs σ σ := ⟨rfl, fun _ _ => rfl⟩
def gnm (i : Nat) : D → Loc → Option Loc := fun d ρ => some (ρ.set i (some d))
theorem dg_name {vs : List Nat} {i : Nat} {x : Str} (hv : i ∈ vs) (hN : X.N.Nodup) (hi : X.N[i]? = some x := by rfl) (hx : L2.Loc X.env.scope x := by first | exact Or.inl rfl | exact Or.inr rfl) (hf : X.fn x = true ∨ X.env.scope.names.lookup x = some .local := by first | exact .inl rfl | exact .inr rfl | assumption) : DG G X vs (.Name x pos) (gName i) (gnm i) :=
  ⟨pg_name hN hi hx hf, fun p σ H ρ d v Q e rd h => h _ (e.set rd) (off_set hv)⟩
theorem dgs_nil {vs : List Nat} : DGs G X vs [] gNil (fun ds ρ => match ds with | [] => some ρ | _ => none) := by
  refine ⟨pgs_nil, fun p σ H ρ ds us Q e rs h => ?_⟩
  cases ds with
  | nil =>
    obtain rfl : us = [] := rs
    exact ⟨rfl, h _ e Off.refl⟩
  | cons d ds => exact h.elim
def gcn (g1 : D → Loc → Option Loc) (g2 : List D → Loc → Option Loc) : List D → Loc → Option Loc := fun ds ρ => match ds with
  | d :: r => (match g1 d ρ with
    | some ρ' => g2 r ρ'
    | none => none)
  | [] => none
theorem dgs_cons {vs : List Nat} {g : TG} {gs : TGs} {g1 : D → Loc → Option Loc} {g2 : List D → Loc → Option Loc} (h1 : DG G X vs e g g1) (h2 : DGs G X vs es gs g2) (hp : PGs X (e :: es) (gCons g gs)) : DGs G X vs (e :: es) (gCons g gs) (gcn g1 g2) := by
  refine ⟨hp, fun p σ H ρ ds us Q en rs h => ?_⟩
  cases ds with
  | nil => exact h.elim
  | cons d r =>
    obtain ⟨v, vr, rfl, rd, rr⟩ := rs
    refine ⟨v, vr, rfl, ?_⟩
    refine h1.run p σ H ρ d v _ en rd ?_
    unfold gcn at h
    dsimp only at h
    cases q : g1 d ρ with
    | none => rw [q] at h; exact h.elim
    | some ρ' =>
      rw [q] at h
      intro σ' e' o'
      refine h2.run p σ' H ρ' r vr Q e' rr ?_
      dsimp only at h
      cases q2 : g2 r ρ' with
      | none => rw [q2] at h; exact h.elim
      | some ρ2 =>
        rw [q2] at h
        exact fun σ2 e2 o2 => h σ2 e2 (o'.trans o2)
def gtm (n : Nat) (g : List D → Loc → Option Loc) : D → Loc → Option Loc := fun d ρ => match d with
  | .tup ds => if decide (ds.length = n) = true then g ds ρ else none
  | _ => none
def glm (n : Nat) (g : List D → Loc → Option Loc) : D → Loc → Option Loc := fun d ρ => match d with
  | .lst ds => if decide (ds.length = n) = true then g ds ρ else none
  | _ => none
theorem dg_tup {vs : List Nat} {n : Nat} {gs : TGs} {g2 : List D → Loc → Option Loc} {tg : Expr} (h : RunGs G vs gs g2) (hp : PG X tg (gTup K n gs)) : DG G X vs tg (gTup K n gs) (gtm n g2) := by
  refine ⟨hp, fun p σ H ρ d v Q en rd q => ?_⟩
  unfold gtm at q
  cases d <;> first
    | exact q.elim
    | skip
  rename_i ds
  obtain ⟨a, us, rfl, h0, h1, rs⟩ := rd
  dsimp only at q
  by_cases hl : ds.length = n
  · rw [if_pos (decide_eq_true hl)] at q
    exact ⟨a, us, rfl, SqT.of h1, by rw [← repL_len rs]; exact hl, h p σ H ρ ds us Q en rs q⟩
  · rw [if_neg (by simp [hl])] at q
    exact q.elim
theorem dg_lst {vs : List Nat} {n : Nat} {gs : TGs} {g2 : List D → Loc → Option Loc} {tg : Expr} (h : RunGs G vs gs g2) (hp : PG X tg (gLst K n gs)) : DG G X vs tg (gLst K n gs) (glm n g2) := by
  refine ⟨hp, fun p σ H ρ d v Q en rd q => ?_⟩
  unfold glm at q
  cases d <;> first
    | exact q.elim
    | skip
  rename_i ds
  obtain ⟨a, us, rfl, h0, h1, rs⟩ := rd
  dsimp only at q
  by_cases hl : ds.length = n
  · rw [if_pos (decide_eq_true hl)] at q
    exact ⟨a, us, rfl, SqL.of h1, by rw [← repL_len rs]; exact hl, h p σ H ρ ds us Q en rs q⟩
  · rw [if_neg (by simp [hl])] at q
    exact q.elim
def sasg (fe : Loc → M D) (gm : D → Loc → Option Loc) : MS := fun ρ s => sof (fe ρ s) ρ fun d s' => match gm d ρ with
  | some ρ' => .nx ρ' s'
  | none => .bad
theorem run_asg {vs : List Nat} {g : TG} {gm : D → Loc → Option Loc} (he : RunG G W (RelE G) te fe) (hg : RunGt G vs g gm) : RunS G W (tAsg te g) (sasg fe gm) := by
  intro p σ H ρ s Z e pk fin
  refine he p σ H ρ s _ e pk (FinS.step fin (fun H1 s1 k1 pk1 => e.keep pk.at k1) fun d s1 v H1 k1 pk1 rd fin1 => ?_)
  refine hg p σ H1 ρ d v _ (e.keep pk.at k1) rd ?_
  cases h : gm d ρ with
  | none => rw [h] at fin1; exact fin1
  | some ρ' => rw [h] at fin1; exact fun σ' e' _ => fin1 σ' H1 Keep.refl pk1 e'
theorem ds_asg {vs : List Nat} {tg : Expr} {g : TG} {gm : D → Loc → Option Loc} (he : DE G X W e te fe) (hg : DG G X vs tg g gm) (hs : swapsWithSole [tg] e pos.line X.env = pure false := by rfl) (hw : swappedStores [tg] e X.env = pure none := by rfl)
    (h1 : (assignEach [tg] X.env).map (·.2) = [assign tg X.env] := by rfl) : DS G X W (.Assign [tg] e pos) (tAsg te g) (sasg fe gm) := ⟨ps_asg he.pe hg.pg hs hw h1, run_asg he.run hg.run⟩
theorem run_gname {i : Nat} : RunGt G [i] (gName i) (gnm i) := fun p σ H ρ d v Q e rd h => h _ (e.set rd) (off_set (List.mem_singleton.mpr rfl))
theorem ds_set {i : Nat} {x : Str} {pos' : Pos} (hN : X.N.Nodup) (he : DE G X W e te fe) (hi : X.N[i]? = some x := by rfl) (hx : L2.Loc X.env.scope x := by first | exact Or.inl rfl | exact Or.inr rfl) (hs : swapsWith e (some (.Name x pos')) pos.line X.env = pure false := by rfl) (hf : X.fn x = true ∨ X.env.scope.names.lookup x = some .local := by first | exact .inl rfl | exact .inr rfl | assumption) :
    DS G X W (.Assign [.Name x pos'] e pos) (tAsg te (gName i)) (sasg fe (gnm i)) := ⟨ps_set hN hi hx he.pe hs hf, run_asg he.run run_gname⟩
/-- a, b = x, y -/
def spar (i j : Nat) (fA : Loc → M (List D)) : MS := fun ρ s => sof (fA ρ s) ρ fun ds s' => match ds with
  | [x, y] => .nx ((ρ.set i (some x)).set j (some y)) s'
  | _ => .bad
theorem run_par {i j : Nat} (ha : RunG G W (RelA G) tA fA) : RunS G W (tPar i j tA) (spar i j fA) := by
  intro p σ H ρ s Z e pk fin
  refine ha p σ H ρ s _ e pk (FinS.step fin (fun H1 s1 k1 pk1 => e.keep pk.at k1) fun ds s1 vs H1 k1 pk1 rs fin1 => ?_)
  cases ds with
  | nil => exact fin1.elim
  | cons x r =>
    cases r with
    | nil => exact fin1.elim
    | cons y r =>
      cases r with
      | nil =>
        obtain ⟨v, _, rfl, rx, w, _, rfl, ry, hz⟩ := rs
        obtain rfl := hz
        exact ⟨v, w, rfl, fin1 _ H1 Keep.refl pk1 (((e.keep pk.at k1).set rx).set ry)⟩
      | cons z r => exact fin1.elim

/-! ### what is walked -/
/-- the items of an iterator, whatever else happens meanwhile -/
def Wider (p q : Fm) (H1 : Hp) : Prop := q.pen = p.pen ∧ q.obj = p.obj ∧ ∀ a o, H1 a = some o → ¬ p.out a → ¬ q.out a
theorem Fm.mut_eq {p q : Fm} (h1 : q.pen = p.pen) (h2 : q.obj = p.obj) {a : Addr} : q.mut a ↔ p.mut a := by unfold Fm.mut; rw [h1, h2]
theorem Wider.refl {p : Fm} {H1 : Hp} : Wider p p H1 := ⟨rfl, rfl, fun _ _ _ h => h⟩
def IterOk (G : Gt) (p : Fm) (H1 : Hp) (ds : List D) (J : It) : Prop :=
  ∀ q H s, Wider p q H1 → Keep p H1 H → PenOk G q H s → (∀ (i : Nat) d, ds[i]? = some d → J.go i H ∧ ∀ x H', J.yld i H x H' → Keep q H H' ∧ PenOk G q H' s ∧ Rep G q H' d x) ∧ J.stop ds.length H
abbrev RelI (G : Gt) : Fm → Hp → List D → It → Prop := fun p H ds J => IterOk G p H ds J
structure DI (G : Gt) (X : Cx) (W : WX) (tg iter : Expr) (wi : TI) (m : Loc → M (List D)) : Prop where
  pi : PI X tg iter wi
  run : RunG G W (RelI G) wi m
def asL (d : D) : M (List D) := match d with
  | .lst xs => mret xs
  | _ => mbad
def asT (d : D) : M (List D) := match d with
  | .tup xs => mret xs
  | _ => mbad
theorem iter_list {p : Fm} {H1 : Hp} {a : Addr} {vs : List V} {ds : List D} {s1 : Pen} (pk1 : PenOk G p H1 s1) (h0 : ¬ p.out a) (h : H1 a = some (.lst vs)) (rs : RepL G p H1 ds vs) : IterOk G p H1 ds (Itl K a) := by
  intro q H s wd k pk
  have h' : H a = some (.lst vs) := k _ _ (Fm.no h0) h
  have rs' := repL_keep (p := q) trivial (fun a o n e => k a o (fun z => n ((Fm.mut_eq wd.1 wd.2.1).mpr z)) e) _ _ (repL_out wd.1 wd.2.1 wd.2.2 _ _ rs)
  refine ⟨fun i d e => ?_, ⟨vs, SqL.of h', by rw [repL_len rs']; exact Nat.le_refl _⟩⟩
  obtain ⟨v, e1, e2⟩ := repL_get rs' e
  refine ⟨⟨vs, v, SqL.of h', e1⟩, fun x H' y => ?_⟩
  obtain ⟨rfl, y⟩ := y
  have ex := y vs (SqL.of h')
  rw [e1] at ex
  cases ex
  exact ⟨Keep.refl, pk, e2⟩
theorem iter_tup {p : Fm} {H1 : Hp} {a : Addr} {vs : List V} {ds : List D} {s1 : Pen} (pk1 : PenOk G p H1 s1) (h0 : ¬ p.out a) (h : H1 a = some (.tup vs)) (rs : RepL G p H1 ds vs) : IterOk G p H1 ds (Itt K a) := by
  intro q H s wd k pk
  have h' : H a = some (.tup vs) := k _ _ (Fm.no h0) h
  have rs' := repL_keep (p := q) trivial (fun a o n e => k a o (fun z => n ((Fm.mut_eq wd.1 wd.2.1).mpr z)) e) _ _ (repL_out wd.1 wd.2.1 wd.2.2 _ _ rs)
  refine ⟨fun i d e => ?_, ⟨vs, SqT.of h', by rw [repL_len rs']; exact Nat.le_refl _⟩⟩
  obtain ⟨v, e1, e2⟩ := repL_get rs' e
  refine ⟨⟨vs, v, SqT.of h', e1⟩, fun x H' y => ?_⟩
  obtain ⟨rfl, y⟩ := y
  have ex := y vs (SqT.of h')
  rw [e1] at ex
  cases ex
  exact ⟨Keep.refl, pk, e2⟩
theorem di_list {tg l : Expr} (hK : X.K = K) (hl : DE G X W l te fe) : DI G X W tg l (iList K te) (fun ρ => mbind (fe ρ) asL) := by
  subst hK
  refine ⟨pi_list hl.pe, fun p σ H ρ s Q e pk fin => ?_⟩
  refine hl.run p σ H ρ s _ e pk (fin.step fun d s1 v H1 k1 pk1 rd fin1 => ?_)
  cases d <;> first
    | exact fin1.elim
    | skip
  rename_i ds
  obtain ⟨a, vs, rfl, h0, h1, rs⟩ := rd
  exact ⟨a, rfl, ⟨vs, SqL.of h1⟩, fin1 _ H1 Keep.refl pk1 (iter_list pk1 h0 h1 rs)⟩
theorem di_tup {tg l : Expr} (hK : X.K = K) (hl : DE G X W l te fe) : DI G X W tg l (iTup K te) (fun ρ => mbind (fe ρ) asT) := by
  subst hK
  refine ⟨pi_tup hl.pe, fun p σ H ρ s Q e pk fin => ?_⟩
  refine hl.run p σ H ρ s _ e pk (fin.step fun d s1 v H1 k1 pk1 rd fin1 => ?_)
  cases d <;> first
    | exact fin1.elim
    | skip
  rename_i ds
  obtain ⟨a, vs, rfl, h0, h1, rs⟩ := rd
  exact ⟨a, rfl, ⟨vs, SqT.of h1⟩, fin1 _ H1 Keep.refl pk1 (iter_tup pk1 h0 h1 rs)⟩
def rngL (lo : Int) (n : Nat) : List D := (List.range n).map fun i => .int (lo + (i : Nat))
theorem iter_rng {p : Fm} {H1 : Hp} {lo : Int} {n : Nat} : IterOk G p H1 (rngL lo n) (Itr lo n) := by
  intro q H s wd k pk
  refine ⟨fun i d e => ?_, by show n ≤ (rngL lo n).length; simp [rngL]⟩
  have hi : i < n := by
    obtain ⟨h, _⟩ := List.getElem?_eq_some_iff.mp e
    simpa [rngL] using h
  refine ⟨hi, fun x H' y => ?_⟩
  obtain ⟨rfl, rfl⟩ := y
  have ed : d = .int (lo + i) := by
    simp [rngL, List.getElem?_map, List.getElem?_range hi] at e
    exact e.symm
  subst ed
  exact ⟨Keep.refl, pk, rfl⟩
def rng1 (ds : List D) : M (List D) := match ds with
  | [.int j] => if decide (j < 100000) = true ∧ decide (-100000 < j) = true then mret (rngL 0 j.toNat) else mbad
  | _ => mbad
def rng2 (ds : List D) : M (List D) := match ds with
  | [.int i, .int j] => if decide (j < 100000) = true ∧ decide (-100000 < j) = true ∧ decide (i < 100000) = true ∧ decide (-100000 < i) = true then mret (rngL i (j - i).toNat) else mbad
  | _ => mbad
theorem di_range1 {tg : Expr} {p0 : Pos} (hg : Gl X "range") (hm : X.mg "range" = none) (ha : DA G X W [a] tA fA) (hs : starEach [a] X.env = [(false, eval a X.env)] := by rfl) : DI G X W tg (.Call (.Name "range" p0) [a] [] pos) (iRng1 tA) (fun ρ => mbind (fA ρ) rng1) := by
  refine ⟨pi_range1 hg hm ha.pa hs, fun p σ H ρ s Q e pk fin => ?_⟩
  refine ha.run p σ H ρ s _ e pk (fin.step fun ds s1 vs H1 k1 pk1 rs fin1 => ?_)
  unfold rng1 at fin1
  split at fin1
  · split at fin1
    · rename_i j hj
      obtain ⟨v, _, rfl, rx, hz⟩ := rs
      obtain rfl := hz
      obtain rfl : v = .int j := rx
      have h1 := of_decide_eq_true hj.1
      have h2 := of_decide_eq_true hj.2
      exact ⟨j, rfl, by omega, by omega, fin1 _ H1 Keep.refl pk1 iter_rng⟩
    · exact fin1.elim
  · exact fin1.elim
theorem di_range2 {tg : Expr} {p0 : Pos} (hg : Gl X "range") (hm : X.mg "range" = none) (ha : DA G X W [a, b] tA fA) (hs : starEach [a, b] X.env = [(false, eval a X.env), (false, eval b X.env)] := by rfl) (hs2 : starEach [b] X.env = [(false, eval b X.env)] := by rfl) :
    DI G X W tg (.Call (.Name "range" p0) [a, b] [] pos) (iRng2 tA) (fun ρ => mbind (fA ρ) rng2) := by
  refine ⟨pi_range2 hg hm ha.pa hs hs2, fun p σ H ρ s Q e pk fin => ?_⟩
  refine ha.run p σ H ρ s _ e pk (fin.step fun ds s1 vs H1 k1 pk1 rs fin1 => ?_)
  unfold rng2 at fin1
  split at fin1
  · split at fin1
    · rename_i i j hj
      obtain ⟨v, _, rfl, rx, w, _, rfl, ry, hz⟩ := rs
      obtain rfl := hz
      obtain rfl : v = .int i := rx
      obtain rfl : w = .int j := ry
      have h1 := of_decide_eq_true hj.1
      have h2 := of_decide_eq_true hj.2.1
      have h3 := of_decide_eq_true hj.2.2.1
      have h4 := of_decide_eq_true hj.2.2.2
      exact ⟨i, j, rfl, ⟨by omega, by omega, by omega, by omega⟩, fin1 _ H1 Keep.refl pk1 iter_rng⟩
    · exact fin1.elim
  · exact fin1.elim

/-! ### for -/
def sloop (gm : D → Loc → Option Loc) (mb : MS) : List D → MS
  | [] => fun ρ s => .nx ρ s
  | d :: ds => fun ρ s => match gm d ρ with
    | none => .bad
    | some ρ1 => (match mb ρ1 s with
      | .nx ρ2 s2 => sloop gm mb ds ρ2 s2
      | .ct ρ2 s2 => sloop gm mb ds ρ2 s2
      | .bk ρ2 s2 => .nx ρ2 s2
      | .ret d s2 => .ret d s2
      | .exc c ns xs ρ2 s2 => .exc c ns xs ρ2 s2
      | .bad => .bad)
def sfor (fi : Loc → M (List D)) (gm : D → Loc → Option Loc) (mb : MS) : MS := fun ρ s => sof (fi ρ s) ρ fun ds s' => sloop gm mb ds ρ s'
theorem run_for {vs : List Nat} {wi : TI} {g : TG} {gm : D → Loc → Option Loc} {fi : Loc → M (List D)} (hi : RunG G W (RelI G) wi fi) (hg : RunGt G vs g gm) (hb : RunS G W tb mb) : RunS G W (tFor wi g tb) (sfor fi gm mb) := by
  intro p σ H ρ s Z e pk fin
  refine hi p σ H ρ s _ e pk (FinS.step fin (fun H1 s1 k1 pk1 => e.keep pk.at k1) fun ds s1 J H1 k1 pk1 it fin1 => ?_)
  refine ⟨fun i n σ' H' => n = ds.length - i ∧ i ≤ ds.length ∧ ∃ ρ' s', EnvOk G p H' σ' ρ' ∧ PenOk G p H' s' ∧ Keep p H1 H' ∧ FinS G W p H' Z (sloop gm mb (ds.drop i) ρ' s'), ⟨ds.length, by simp, Nat.zero_le _, ρ, s1, e.keep pk.at k1, pk1, Keep.refl, fin1⟩, ?_⟩
  rintro i n σ' H' ⟨rfl, hle, ρ', s', e', pk', k', fin'⟩
  obtain ⟨hgo, hst⟩ := it p H' s' Wider.refl k' pk'
  by_cases hlt : i < ds.length
  · have ed : ds[i]? = some ds[i] := List.getElem?_eq_some_iff.mpr ⟨hlt, rfl⟩
    obtain ⟨g1, g2⟩ := hgo i _ ed
    rw [List.drop_eq_getElem_cons hlt] at fin'
    refine .inr ⟨g1, fun σ2 H2 => ∃ ρ2 s2, EnvOk G p H2 σ2 ρ2 ∧ PenOk G p H2 s2 ∧ Keep p H1 H2 ∧ FinS G W p H2 Z (sloop gm mb (ds.drop (i + 1)) ρ2 s2), fun σ2 H2 h => ⟨ds.length - (i + 1), by omega, rfl, hlt, h⟩, fun x Hx y => ?_⟩
    obtain ⟨kx, pkx, rx⟩ := g2 x Hx y
    refine hg p σ' Hx ρ' _ x _ (e'.keep pk'.at kx) rx ?_
    have fin2 := FinS.keep kx fin'
    unfold sloop at fin2
    cases q : gm ds[i] ρ' with
    | none => rw [q] at fin2; exact fin2
    | some ρ1 =>
      rw [q] at fin2
      intro σ2 e2 _
      refine hb p σ2 Hx ρ1 s' _ e2 pkx ?_
      dsimp only at fin2
      cases q2 : mb ρ1 s' with
      | nx ρ2 s2 => rw [q2] at fin2; exact fun σ3 H3 k3 pk3 e3 => ⟨ρ2, s2, e3, pk3, (k'.trans kx).trans k3, FinS.keep k3 fin2⟩
      | ct ρ2 s2 => rw [q2] at fin2; exact fun σ3 H3 k3 pk3 e3 => ⟨ρ2, s2, e3, pk3, (k'.trans kx).trans k3, FinS.keep k3 fin2⟩
      | bk ρ2 s2 => rw [q2] at fin2; exact fin2
      | ret d s2 => rw [q2] at fin2; exact fin2
      | exc c ns xs ρ2 s2 => rw [q2] at fin2; exact fin2
      | bad => rw [q2] at fin2; exact fin2
  · have ei : i = ds.length := by omega
    subst ei
    rw [List.drop_length] at fin'
    exact .inl ⟨hst, fin' σ' H' Keep.refl pk' e'⟩
theorem ds_for {vs : List Nat} {tg iter : Expr} {body : List Stmt} {wi : TI} {g : TG} {gm : D → Loc → Option Loc} {fi : Loc → M (List D)} (hp : PassesOwn (model X.prog X.w) X.A X.env X.xe) (hc : X.calm = true) (hi : DI G X W tg iter wi fi) (hg : DG G X vs tg g gm) (hb : DSs G X W body tb mb)
    (hs : ∀ x, foldedSetIterable iter X.env x = pure x := by intro _; rfl) : DS G X W (.For tg iter body [] pos) (tFor wi g tb) (sfor fi gm mb) := ⟨ps_for hp hc hi.pi hg.pg hb.ps hs, run_for hi.run hg.run hb.run⟩


/-! ### comprehensions -/
def nox {α : Type} (m : M α) : M α := fun s => match m s with
  | .ok a s' => .ok a s'
  | _ => .bad
def cloop (gm : D → Loc → Option Loc) (mt : Loc → M Bool) (me : Loc → M D) : List D → Loc → List D → M (List D)
  | [], _, acc => mret acc
  | d :: ds, ρ, acc => match gm d ρ with
    | none => mbad
    | some ρ1 => mbind (nox (mt ρ1)) fun c => if c = true then (mbind (nox (me ρ1)) fun y => if decide (acc.length < 100000) = true then cloop gm mt me ds ρ (acc ++ [y]) else mbad) else cloop gm mt me ds ρ acc
def wipeL (ρ : Loc) : List Nat → Loc
  | [] => ρ
  | v :: vs => (wipeL ρ vs).set v none
theorem wipeL_len (ρ : Loc) : ∀ vs, (wipeL ρ vs).length = ρ.length
  | [] => rfl
  | v :: vs => by unfold wipeL; rw [List.length_set]; exact wipeL_len ρ vs
theorem wipeL_some {ρ : Loc} {i : Nat} {d : D} : ∀ {vs : List Nat}, (wipeL ρ vs)[i]? = some (some d) → ρ[i]? = some (some d) ∧ i ∉ vs
  | [], h => ⟨h, by simp⟩
  | v :: vs, h => by
    unfold wipeL at h
    rw [List.getElem?_set] at h
    by_cases e : v = i
    · subst e
      simp only [if_true] at h
      split at h <;> cases h
    · rw [if_neg e] at h
      obtain ⟨h1, h2⟩ := wipeL_some h
      exact ⟨h1, by simp [h2, Ne.symm e]⟩
theorem wipe_in {σ : St} {i : Nat} : ∀ {vs : List Nat}, i ∈ vs → (wipe σ vs)[i]? = if i < σ.length then some none else none
  | [], h => by cases h
  | v :: vs, h => by
    unfold wipe
    rw [List.getElem?_set, wipe_length]
    by_cases e : v = i
    · subst e; simp
    · rw [if_neg e]
      exact wipe_in ((List.mem_cons.mp h).resolve_left (Ne.symm e))
theorem wipe_off {σ σ2 : St} {vs : List Nat} (h : Off vs (wipe σ vs) σ2) : wipe σ2 vs = wipe σ vs := by
  refine List.ext_getElem? fun i => ?_
  have hl : σ2.length = σ.length := h.1.trans (wipe_length σ vs)
  by_cases e : i ∈ vs
  · rw [wipe_in e, wipe_in e, hl]
  · rw [wipe_out e, h.2 i e]
theorem EnvOk.wipe {p : Fm} {H : Hp} {σ : St} {ρ : Loc} {vs : List Nat} (e : EnvOk G p H σ ρ) : EnvOk G p H (wipe σ vs) (wipeL ρ vs) := by
  refine ⟨by rw [wipe_length, wipeL_len]; exact e.1, fun i d h => ?_⟩
  obtain ⟨h1, h2⟩ := wipeL_some h
  obtain ⟨v, h3, h4⟩ := e.2 i d h1
  exact ⟨v, by rw [wipe_out h2]; exact h3, h4⟩
theorem EnvOk.upd {p : Fm} {H : Hp} {σ : St} {ρ : Loc} {a : Addr} {o : HO} (e : EnvOk G p H σ ρ) (ha : p.out a) : EnvOk G p (L2.upd H a o) σ ρ :=
  ⟨e.1, fun i d h => let ⟨v, h1, h2⟩ := e.2 i d h; ⟨v, h1, rep_upd ha d v h2⟩⟩
theorem EnvOk.out {p q : Fm} {H : Hp} {σ : St} {ρ : Loc} (e : EnvOk G p H σ ρ) (w : Wider p q H) : EnvOk G q H σ ρ :=
  ⟨e.1, fun i d h => let ⟨v, h1, h2⟩ := e.2 i d h; ⟨v, h1, rep_out w.1 w.2.1 w.2.2 d v h2⟩⟩
theorem PenOk.upd {p : Fm} {H : Hp} {s : Pen} {a : Addr} {o : HO} (h : PenOk G p H s) (ha : p.out a) (hn : ¬ p.mut a) : PenOk G p (L2.upd H a o) s := by
  refine ⟨fun b kd e => (h.1 b kd e).keep (upd_ne fun z => hn (.inl ⟨kd, by rw [← z]; exact e⟩)) fun c u hc eh => ?_, fun x c dx e => ?_, fun b hb => ?_⟩
  · rw [upd_ne (fun z => hc (by rw [z]; exact ha))]; exact eh
  · obtain ⟨vs, h1, hl, h2⟩ := h.2.1 x c dx e
    exact ⟨vs, by rw [upd_ne (fun z => hn (.inr ⟨c, dx, by rw [← z]; exact e⟩))]; exact h1, hl, repL_upd ha _ _ h2⟩
  · by_cases e : b = a
    · subst e; exact ⟨o, upd_same⟩
    · rw [upd_ne e]; exact h.2.2 b hb
/-- one address more that no tree names -/
def Fm.add (p : Fm) (a : Addr) : Fm := ⟨p.pen, p.obj, fun b => p.out b ∨ b = a, fun b kd e => .inl (p.okp b kd e), fun x c d e => .inl (p.oko x c d e)⟩
theorem wider_add {p : Fm} {H : Hp} {a : Addr} (n : H a = none) : Wider p (p.add a) H := ⟨rfl, rfl, fun b o e h z => z.elim h fun z => ne_of_none e n z⟩
theorem PenOk.add {p : Fm} {H : Hp} {s : Pen} {a : Addr} {o : HO} (h : PenOk G p H s) (n : H a = none) : PenOk G (p.add a) (L2.upd H a o) s := by
  have h' : PenOk G p (L2.upd H a o) s := h.new n
  refine ⟨fun b kd e => ?_, fun x c dx e => ?_, fun b hb => ?_⟩
  · rcases h.1 b kd e with ⟨e1, e2⟩ | ⟨e1, c, h0, h1, h2⟩
    · exact .inl ⟨e1, by rw [upd_ne (ne_of_none e2 n)]; exact e2⟩
    · exact .inr ⟨e1, c, fun z => z.elim h0 fun z => ne_of_none h2 n z, by rw [upd_ne (ne_of_none h1 n)]; exact h1, by rw [upd_ne (ne_of_none h2 n)]; exact h2⟩
  · obtain ⟨vs, h1, hl, h2⟩ := h.2.1 x c dx e
    exact ⟨vs, by rw [upd_ne (ne_of_none h1 n)]; exact h1, hl, repL_keep trivial (Keep.new n) _ _ (repL_out (p := p) (q := p.add a) rfl rfl (wider_add n).2.2 _ _ h2)⟩
  · by_cases e : b = a
    · subst e; exact ⟨o, upd_same⟩
    · rw [upd_ne e]; exact h.2.2 b (hb.resolve_right e)
theorem PenOk.sub {p : Fm} {H : Hp} {s : Pen} {a : Addr} (h : PenOk G (p.add a) H s) : PenOk G p H s := by
  refine ⟨fun b kd e => ?_, fun x c dx e => ?_, fun b hb => h.2.2 b (.inl hb)⟩
  · rcases h.1 b kd e with e1 | ⟨e1, c, h0, h1, h2⟩
    · exact .inl e1
    · exact .inr ⟨e1, c, fun z => h0 (.inl z), h1, h2⟩
  · obtain ⟨vs, h1, hl, h2⟩ := h.2.1 x c dx e
    exact ⟨vs, h1, hl, repL_out (p := p.add a) (q := p) rfl rfl (fun a o _ h z => h (.inl z)) _ _ h2⟩
theorem PenOk.nomut {p : Fm} {H : Hp} {s : Pen} {a : Addr} (h : PenOk G p H s) (n : H a = none) : ¬ p.mut a := Fm.no (h.free n)
theorem run_lc {vs : List Nat} {wi : TI} {g : TG} {gm : D → Loc → Option Loc} {fi : Loc → M (List D)} {tt : TT} {mt : Loc → M Bool} (hi : RunG G W (RelI G) wi fi) (hg : RunGt G vs g gm) (ht : RunG G (fun _ _ _ _ => False) RelB tt mt) (he : RunG G (fun _ _ _ _ => False) (RelE G) te fe) :
    RunG G W (RelE G) (tLc wi g tt te vs) (fun ρ => mbind (fi ρ) fun ds => mbind (cloop gm mt fe ds (wipeL ρ vs) []) lstD) := by
  intro p σ H ρ s Q e pk fin
  refine hi p σ H ρ s _ e pk (fin.step fun ds s1 J H1 k1 pk1 it fin1 => ?_)
  intro Dd hD
  have e1 : EnvOk G p H1 (wipe σ vs) (wipeL ρ vs) := (e.keep pk.at k1).wipe
  have wd : Wider p (p.add Dd) H1 := wider_add hD
  have hpn : ¬ (p.add Dd).mut Dd := pk1.nomut hD
  refine ⟨fun i n H' => n = ds.length - i ∧ i ≤ ds.length ∧ ∃ ys us s', H' Dd = some (.lst us) ∧ RepL G (p.add Dd) H' ys us ∧ EnvOk G (p.add Dd) H' (wipe σ vs) (wipeL ρ vs) ∧ PenOk G (p.add Dd) H' s' ∧ Keep p H1 H' ∧
    FinG G W (RelE G) p σ H1 Q (mbind (cloop gm mt fe (ds.drop i) (wipeL ρ vs) ys) lstD s'), ⟨ds.length, by simp, Nat.zero_le _, [], [], s1, upd_same, rfl, (e1.out wd).keep trivial (Keep.new hD), pk1.add hD, Keep.new hD, fin1⟩, ?_⟩
  rintro i n H' ⟨rfl, hle, ys, us, s', hd, ry, e', pk', k', fin'⟩
  obtain ⟨hgo, hst⟩ := it (p.add Dd) H' s' wd k' pk'
  by_cases hlt : i < ds.length
  · have ed : ds[i]? = some ds[i] := List.getElem?_eq_some_iff.mpr ⟨hlt, rfl⟩
    obtain ⟨g1, g2⟩ := hgo i _ ed
    rw [List.drop_eq_getElem_cons hlt] at fin'
    refine .inr ⟨g1, fun H2 => ∃ ys us s', H2 Dd = some (.lst us) ∧ RepL G (p.add Dd) H2 ys us ∧ EnvOk G (p.add Dd) H2 (wipe σ vs) (wipeL ρ vs) ∧ PenOk G (p.add Dd) H2 s' ∧ Keep p H1 H2 ∧
      FinG G W (RelE G) p σ H1 Q (mbind (cloop gm mt fe (ds.drop (i + 1)) (wipeL ρ vs) ys) lstD s'), fun H2 h => ⟨ds.length - (i + 1), by omega, rfl, hlt, h⟩, fun x Hx y => ?_⟩
    obtain ⟨kx, pkx, rx⟩ := g2 x Hx y
    refine hg (p.add Dd) (wipe σ vs) Hx (wipeL ρ vs) _ x _ (e'.keep pk'.at kx) rx ?_
    have fin2 : FinG G W (RelE G) p σ H1 Q (obind (cloop gm mt fe (ds[i] :: ds.drop (i + 1)) (wipeL ρ vs) ys s') lstD) := fin'
    unfold cloop at fin2
    cases q : gm ds[i] (wipeL ρ vs) with
    | none => rw [q] at fin2; exact fin2
    | some ρ1 =>
      rw [q] at fin2
      intro σ2 e2 o2
      refine ⟨wipe_off o2, ?_⟩
      have hdx : Hx Dd = some (.lst us) := kx _ _ hpn hd
      refine ht (p.add Dd) σ2 Hx ρ1 s' _ e2 pkx ?_
      dsimp only at fin2
      have fin3 : FinG G W (RelE G) p σ H1 Q (obind (obind (nox (mt ρ1) s') fun c => if c = true then (mbind (nox (fe ρ1)) fun y => if decide (ys.length < 100000) = true then cloop gm mt fe (ds.drop (i + 1)) (wipeL ρ vs) (ys ++ [y]) else mbad) else cloop gm mt fe (ds.drop (i + 1)) (wipeL ρ vs) ys) lstD) := fin2
      unfold nox at fin3
      cases q2 : mt ρ1 s' with
      | exc c ns xs s2 => rw [q2] at fin3; exact False.elim fin3
      | bad => rw [q2] at fin3; exact False.elim fin3
      | ok c s2 =>
        rw [q2] at fin3
        intro b H3 k3 pk3 hb
        obtain rfl : b = c := hb
        have e3 := e2.keep pkx.at k3
        have hd3 : H3 Dd = some (.lst us) := k3 _ _ hpn hdx
        have kk : Keep (p.add Dd) H' H3 := kx.trans k3
        cases b with
        | false =>
          rw [if_neg Bool.false_ne_true]
          have fin4 : FinG G W (RelE G) p σ H1 Q (obind (cloop gm mt fe (ds.drop (i + 1)) (wipeL ρ vs) ys s2) lstD) := fin3
          exact ⟨ys, us, s2, hd3, repL_keep pk'.at kk _ _ ry, e'.keep pk'.at kk, pk3, k'.trans (fun a o n h => kk a o n h), fin4⟩
        | true =>
          rw [if_pos rfl]
          have fin4 : FinG G W (RelE G) p σ H1 Q (obind (obind (nox (fe ρ1) s2) fun y => if decide (ys.length < 100000) = true then cloop gm mt fe (ds.drop (i + 1)) (wipeL ρ vs) (ys ++ [y]) else mbad) lstD) := fin3
          unfold nox at fin4
          refine he (p.add Dd) σ2 H3 ρ1 s2 _ e3 pk3 ?_
          cases q3 : fe ρ1 s2 with
          | exc c ns xs s3 => rw [q3] at fin4; exact False.elim fin4
          | bad => rw [q3] at fin4; exact False.elim fin4
          | ok yd s3 =>
            rw [q3] at fin4
            intro v H4 k4 pk4 rv
            have hd4 : H4 Dd = some (.lst us) := k4 _ _ hpn hd3
            have kk4 : Keep (p.add Dd) H' H4 := kk.trans k4
            have fin5 : FinG G W (RelE G) p σ H1 Q (obind ((if decide (ys.length < 100000) = true then cloop gm mt fe (ds.drop (i + 1)) (wipeL ρ vs) (ys ++ [yd]) else mbad) s3) lstD) := fin4
            by_cases hl : ys.length < 100000
            · rw [if_pos (decide_eq_true hl)] at fin5
              have ho : (p.add Dd).out Dd := .inr rfl
              have ry4 := repL_keep pk'.at kk4 _ _ ry
              refine ⟨us, hd4, by rw [← repL_len ry]; exact Nat.lt_of_lt_of_le hl (by decide), ys ++ [yd], us ++ [v], s3, upd_same, repL_upd ho _ _ (repL_app ry4 ⟨v, [], rfl, rv, rfl⟩), (e'.keep pk'.at kk4).upd ho, pk4.upd ho hpn, fun a o n h => ?_, fin5⟩
              rw [upd_ne (ne_of_none h hD)]
              exact (k'.trans (fun a o n h => kk4 a o n h)) a o n h
            · rw [if_neg (by simp [hl])] at fin5
              exact False.elim fin5
  · have ei : i = ds.length := by omega
    subst ei
    rw [List.drop_length] at fin'
    have fin2 : FinG G W (RelE G) p σ H1 Q (lstD ys s') := fin'
    unfold lstD at fin2
    refine .inl ⟨hst, ?_⟩
    split at fin2
    · exact fin2 _ H' k' pk'.sub ⟨Dd, us, rfl, pk1.free hD, hd, repL_out (p := p.add Dd) (q := p) rfl rfl (fun a o _ h z => h (.inl z)) _ _ ry⟩
    · exact False.elim fin2
theorem de_lc {tg iter elt : Expr} {ifs : List Expr} {scope : Scope} {own : List (Str × Nat)} {wi : TI} {g : TG} {gm : D → Loc → Option Loc} {fi : Loc → M (List D)} {tt : TT} {mt : Loc → M Bool} (hc : X.calm = true) (hN : X.N.Nodup) (hi : DI G X W tg iter wi fi) (ok : BlkOk X.N X.env.scope scope own)
    (hg : ∀ (s : Shared) (H : Hp) (C : Addr) (cl : List (Str × Addr)) (fp : List Addr), DG G (X.blk s H scope (compEnvC scope cl C X.env) fp) (own.map (·.2)) tg g gm) (ht : ∀ (s : Shared) (H : Hp) (C : Addr) (cl : List (Str × Addr)) (fp : List Addr), PTs (X.blk s H scope (compEnvC scope cl C X.env) fp) ifs tt) (htr : RunG G (fun _ _ _ _ => False) RelB tt mt)
    (he : ∀ (s : Shared) (H : Hp) (C : Addr) (cl : List (Str × Addr)) (fp : List Addr), DE G (X.blk s H scope (compEnvC scope cl C X.env) fp) (fun _ _ _ _ => False) elt te fe) (hs : ∀ x, foldedSetIterable iter X.env x = pure x := by intro _; rfl) :
    DE G X W (.ListComp elt [⟨tg, iter, ifs, 0⟩] scope pos) (tLc wi g tt te (own.map (·.2))) (fun ρ => mbind (fi ρ) fun ds => mbind (cloop gm mt fe ds (wipeL ρ (own.map (·.2))) []) lstD) := by
  exact ⟨pe_lc hc hN hi.pi ok (fun s H C cl fp => (hg s H C cl fp).pg) ht (fun s H C cl fp => (he s H C cl fp).pe) hs, run_lc hi.run (hg X.s_0 (fun _ => none) 0 [] []).run htr (he X.s_0 (fun _ => none) 0 [] []).run⟩
end
end Tw

set_option Elab.async false
set_option linter.all false
set_option maxRecDepth 100000
set_option maxHeartbeats 4000000
set_option autoImplicit false
namespace Tw
open PySem L2 PySem.Spec PyProof.Rows
section
variable {K : PySem.W.Frag} {G : Gt} {W : WX} {X : Cx}

/-! ### built-in functions -/
def gcdD (ds : List D) : M D := match ds with
  | [.int a, .int b] => mret (.int ((Nat.gcd a.natAbs b.natAbs : Nat) : Int))
  | _ => mbad
theorem prim_gcd : PrimL G rGcd gcdD := by
  intro W p σ H s xs vs Q pk rs fin
  unfold gcdD at fin
  split at fin
  · obtain ⟨v, _, rfl, rx, w, _, rfl, ry, hz⟩ := rs
    obtain rfl := hz
    exact ⟨_, _, by rw [(show v = _ from rx), (show w = _ from ry)], fin _ H Keep.refl pk rfl⟩
  · exact fin.elim
def intD (ds : List D) : M D := match ds with
  | [.int a] => mret (.int a)
  | [.bl b] => mret (.int (if b then 1 else 0))
  | _ => mbad
theorem prim_int : PrimL G (fun xs H Q => (∃ i, xs = [.int i] ∧ Q (.int i) H) ∨ ∃ k, xs = [.bl k] ∧ Q (.int (if k then 1 else 0)) H) intD := by
  intro W p σ H s xs vs Q pk rs fin
  unfold intD at fin
  split at fin
  · obtain ⟨v, _, rfl, rx, hz⟩ := rs
    obtain rfl := hz
    exact .inl ⟨_, by rw [(show v = _ from rx)], fin _ H Keep.refl pk rfl⟩
  · obtain ⟨v, _, rfl, rx, hz⟩ := rs
    obtain rfl := hz
    exact .inr ⟨_, by rw [(show v = _ from rx)], fin _ H Keep.refl pk rfl⟩
  · exact fin.elim
def strD (ds : List D) : M D := match ds with
  | [.int a] => if decide (a.natAbs.log2 < 1920) = true then mret (.str (toString a)) else mbad
  | _ => mbad
theorem prim_str : PrimL G (fun xs H Q => ∃ i : Int, xs = [.int i] ∧ i.natAbs.log2 < 1920 ∧ Q (.str (toString i)) H) strD := by
  intro W p σ H s xs vs Q pk rs fin
  unfold strD at fin
  split at fin
  · split at fin
    · rename_i h
      obtain ⟨v, _, rfl, rx, hz⟩ := rs
      obtain rfl := hz
      exact ⟨_, by rw [(show v = _ from rx)], of_decide_eq_true h, fin _ H Keep.refl pk rfl⟩
    · exact fin.elim
  · exact fin.elim
def absD (ds : List D) : M D := match ds with
  | [.int a] => mret (.int (if a < 0 then -a else a))
  | _ => mbad
theorem prim_abs : PrimL G (fun xs H Q => ∃ i, xs = [.int i] ∧ Q (.int (if i < 0 then -i else i)) H) absD := by
  intro W p σ H s xs vs Q pk rs fin
  unfold absD at fin
  split at fin
  · obtain ⟨v, _, rfl, rx, hz⟩ := rs
    obtain rfl := hz
    exact ⟨_, by rw [(show v = _ from rx)], fin _ H Keep.refl pk rfl⟩
  · exact fin.elim
def lenD (ds : List D) : M D := match ds with
  | [.lst xs] => mret (.int (xs.length : Nat))
  | [.tup xs] => mret (.int (xs.length : Nat))
  | _ => mbad
theorem prim_len : PrimL G (fun xs H Q => ∃ p ys, xs = [.ref p] ∧ (SqL K H p ys ∨ SqT K H p ys) ∧ Q (.int ys.length) H) lenD := by
  intro W p σ H s xs vs Q pk rs fin
  unfold lenD at fin
  split at fin
  · obtain ⟨v, _, rfl, rx, hz⟩ := rs
    obtain rfl := hz
    obtain ⟨a, us, rfl, h0, h1, q1⟩ := rx
    exact ⟨a, us, rfl, .inl (SqL.of h1), by rw [← repL_len q1]; exact fin _ H Keep.refl pk rfl⟩
  · obtain ⟨v, _, rfl, rx, hz⟩ := rs
    obtain rfl := hz
    obtain ⟨a, us, rfl, h0, h1, q1⟩ := rx
    exact ⟨a, us, rfl, .inr (SqT.of h1), by rw [← repL_len q1]; exact fin _ H Keep.refl pk rfl⟩
  · exact fin.elim
/-- a built-in type's name -/
def tag : D → Option String
  | .non => some "NoneType"
  | .bl _ => some "bool"
  | .int _ => some "int"
  | .str _ => some "str"
  | .lst _ => some "list"
  | .tup _ => some "tuple"
  | _ => none
theorem tag_ok {p : Fm} {H : Hp} {s : Pen} (pk : PenOk G p H s) : ∀ {d : D} {v : V} {n : String}, Rep G p H d v → tag d = some n → TyX K H v (.type n) := by
  intro d v n r e
  cases d <;> cases e
  · rw [(show v = _ from r)]; exact .base .non
  · rw [(show v = _ from r)]; exact .base (.bl _)
  · rw [(show v = _ from r)]; exact .base (.int _)
  · rw [(show v = _ from r)]; exact .base (.str _)
  · obtain ⟨a, us, rfl, h0, h1, q1⟩ := r; exact .base (.lst h1)
  · obtain ⟨a, us, rfl, h0, h1, q1⟩ := r; exact .base (.tup h1)
def subT (a b : String) : Bool := a == b || (a == "bool" && b == "int")
def isiB (ds : List D) : M D := match ds with
  | [x, .ty T] => (match tag x with
    | some a => if decide (kitB a T = some (subT a T)) = true then mret (.bl (subT a T)) else mbad
    | none => mbad)
  | _ => mbad
theorem prim_isiB : PrimL G (rIsi K) isiB := by
  intro W p σ H s xs vs Q pk rs fin
  unfold isiB at fin
  split at fin
  · rename_i x T
    obtain ⟨v, _, rfl, rx, w, _, rfl, ry, hz⟩ := rs
    obtain rfl := hz
    obtain rfl : w = .ty T := ry
    cases h : tag x with
    | none => rw [h] at fin; exact False.elim fin
    | some a =>
      rw [h] at fin
      dsimp only at fin
      split at fin
      · rename_i hk
        exact ⟨v, .ty T, .type a, .type T, _, rfl, .ty T, tag_ok pk rx h, kit_ty (of_decide_eq_true hk), fin _ H Keep.refl pk rfl⟩
      · exact False.elim fin
  · exact False.elim fin

/-! ### a def -/
def startL (nl : Nat) (ds : List D) : Loc := ds.map some ++ List.replicate (nl - ds.length) none
def mdef (nl : Nat) (b : MS) (ds : List D) : M D := fun s => match b (startL nl ds) s with
  | .nx _ s' => .ok .non s'
  | .ret d s' => .ok d s'
  | .exc c ns xs _ s' => .exc c ns xs s'
  | _ => .bad
theorem env_start {p : Fm} {H : Hp} {N : List Str} {ds : List D} {vs : List V} (r : RepL G p H ds vs) : EnvOk G p H (L2.start N vs) (startL N.length ds) := by
  have hl := repL_len r
  refine ⟨by unfold L2.start startL; simp [hl], fun i d h => ?_⟩
  unfold startL at h
  unfold L2.start
  by_cases hi : i < ds.length
  · rw [List.getElem?_append_left (by simpa using hi), List.getElem?_map] at h
    cases q : ds[i]? with
    | none => rw [q] at h; cases h
    | some x =>
      rw [q] at h
      cases h
      obtain ⟨v, h1, h2⟩ := repL_get r q
      exact ⟨v, by rw [List.getElem?_append_left (by rw [List.length_map]; omega), List.getElem?_map, h1]; rfl, h2⟩
  · rw [List.getElem?_append_right (by simpa using hi), List.getElem?_replicate] at h
    split at h <;> cases h
variable {P : Program} {w : World} {mg : Str → Option Value} {base : Heap}
theorem ok_def {x qual : Str} {st : Stmt} {f : Addr} {fd : FuncData} {N ps : List Str} {k n : Nat} {b : MS} (F : Fun K x qual st f fd) (S : FnScope N ps (defScope st)) (hn : ps.length = n)
    (hb : ∀ (cdv : Value) (A : Around) (outer : List Env) (s : Shared) (H : Hp) (E : XK), Room k (A.deeper (envOfC qual (defScope st) s.heap.objs.size f cdv)) →
      ∃ t, DSs G (cxOf (L2.CX P w) P w K mg base N qual (defScope st) f cdv A outer s H E) (fun c d _ H' => E c d H') (defBody st) t b) :
    FnOk P w K mg base (L2.CX P w) (k + 1) f fd ps (spM G n (mdef N.length b)) := by
  refine F.okX S (fun vs H Q E h => by rw [h.1, hn]) fun cdv A outer s H vs Q E hr h => ?_
  obtain ⟨t, dt⟩ := hb cdv A outer s H E hr
  refine ⟨t, dt.ps, ?_⟩
  obtain ⟨_, p, ds, s1, rs, pk, fin⟩ := h
  refine dt.run p _ H (startL N.length ds) s1 _ (env_start rs) pk ?_
  unfold mdef at fin
  cases q : b (startL N.length ds) s1 with
  | nx ρ s' => rw [q] at fin; exact fun σ' H' k pk' _ => fin _ H' k pk' rfl
  | ret d s' => rw [q] at fin; exact fun v H' k pk' rd => fin v H' k pk' rd
  | exc c ns xs ρ s' => rw [q] at fin; exact fun dd σ' H' k pk' _ x => fin dd H' k pk' x
  | bk ρ s' => rw [q] at fin; exact False.elim fin
  | ct ρ s' => rw [q] at fin; exact False.elim fin
  | bad => rw [q] at fin; exact False.elim fin

/-! ### raise C() of an own class whose __init__ does nothing -/
def spNo : Sp := fun vs H Q _ => ∃ a, vs = [.ref a] ∧ Q .non H
theorem ok_noinit {qual : Str} {st : Stmt} {f : Addr} {fd : FuncData} {pos : Pos} (F : Fun K "__init__" qual st f fd) (S : FnScope ["self"] ["self"] (defScope st)) (hb : defBody st = [.Pass pos]) : FnOk P w K mg base (L2.CX P w) 1 f fd ["self"] spNo := by
  refine F.okX S (fun vs H Q E h => by obtain ⟨a, rfl, _⟩ := h; rfl) fun cdv A outer s H vs Q E hr h => ?_
  obtain ⟨a, rfl, q⟩ := h
  exact ⟨_, by rw [hb]; exact pss_one ps_pass, q⟩
theorem no_dict {pins : List (Addr × Obj)} {σ : L2.St} {H1 H2 : Hp} {hp hp2 h2 : Heap} {g1 g2 : Array GenState} {d1 d2 : Drawn} {t1 t2 : Nat} {os1 os2 : OsState} {a C : Addr} (I1 : Inv X pins σ H1 ⟨hp, g1, d1, t1, os1⟩)
    (ha : hp.objs.size ≤ a) (k : ∀ b o, hp.get? b = some o → hp2.get? b = some o) (un : Un (frs X.stack) [] (upd H1 a (exo a C none)) H2 hp2 h2) (hok : HOk X.prog X.w H2 h2) (ho : os2 = os1) (hb : AllBare g2) (ea : H2 a = some (exo a C none)) :
    ∃ (t0 : Addr) (Gp : Heap), Inv X pins σ (del H2 a) ⟨Gp, g2, d2, t2, os2⟩ ∧ (∀ b o, Gp.get? b = some o → h2.get? b = some o) ∧ Gp.get? a = none ∧
      h2.get? a = some ({ cls := .ref C, dict := none, data := .fields #[.ref t0, .none, .none, .none, .bool false, .none] } : Obj) := by
  obtain ⟨t0, hoe⟩ := exo_at hok ea
  have hn : H1 a = none := I1.hok.fresh ha
  obtain ⟨Gp, r1, r2⟩ := restrict h2 fun b => decide (b ≠ a)
  have gk : ∀ b, b ≠ a → Gp.get? b = h2.get? b := fun b z => r1 b (decide_eq_true z)
  have ge : Gp.get? a = none := r2 a (by simp)
  have nha : ∀ {b : Addr} {o : Obj}, hp.get? b = some o → b ≠ a := fun {b o} z => Nat.ne_of_lt (Nat.lt_of_lt_of_le (Heap.lt_size z) ha)
  have up1 : ∀ {b : Addr}, b ≠ a → H1 b = none → upd H1 a (exo a C none) b = none := fun {b} z n => (upd_ne z).trans n
  have U : Un (frs X.stack) [] H1 (del H2 a) hp Gp := by
    refine ⟨fun b o z n hf hx => (gk b (nha z)).trans (un.keep b o (k b o z) (up1 (nha z) n) hf hx), fun b o z n hf hx => ?_, fun b o z n hx => (del_ne (nha z)).trans (un.free b o (k b o z) (up1 (nha z) n) hx), fun b o z hx => ?_, fun b xs z => ?_, fun b o v z => ?_, fun b ps z => ?_⟩
    · obtain ⟨sl, e⟩ := un.slot b o (k b o z) (up1 (nha z) n) hf hx
      exact ⟨sl, (gk b (nha z)).trans e⟩
    · obtain ⟨o', e⟩ := un.there b o (k b o z) hx
      exact ⟨o', (gk b (nha z)).trans e⟩
    · exact (del_ne (ne_of_none z hn)).trans (un.tups b xs ((upd_ne (ne_of_none z hn)).trans z))
    · exact (del_ne (ne_of_none z hn)).trans (un.frzs b o v ((upd_ne (ne_of_none z hn)).trans z))
    · obtain ⟨more, e⟩ := un.tbls b ps ((upd_ne (ne_of_none z hn)).trans z)
      exact ⟨more, (del_ne (ne_of_none z hn)).trans e⟩
  have hok3 : HOk X.prog X.w (del H2 a) Gp := fun b o z => by
    have hba : b ≠ a := fun e => by
      rw [e, del_same] at z
      cases z
    rw [del_ne hba] at z
    have noa : ∀ {c : Addr}, H2 c = some (.own b) → c ≠ a := fun {c} hc => at_ne ea hc exo_own
    refine (hok b o z).stay (fun c v hc y => ?_) (fun c hc => (del_ne (noa hc)).trans hc) fun c xs hc => (del_ne (at_ne ea hc exo_tup)).trans hc
    have hca : c ≠ a := hc.elim (fun e => by rw [e]; exact hba) noa
    exact (gk c hca).trans y
  refine ⟨t0, Gp, I1.call' (ch := []) ho U hok3 hb (fun b z => absurd z (by simp)), fun b o z => ?_, ge, hoe⟩
  by_cases hba : b = a
  · rw [hba, ge] at z
    cases z
  · exact (gk b hba).symm.trans z
theorem pmk_no {x : Str} {C fI : Addr} {fd : FuncData} {p0 pos : Pos} (T : OexC X.K C) (iC : PySem.W.findIn X.K (.ref C) "__init__" = some (some (.ref fI))) (tI : PySem.W.typeIn X.K (.ref fI) = some (.type "function"))
    (F1 : FnOk X.prog X.w X.K X.mg X.base (L2.CX X.prog X.w) 1 fI fd ["self"] spNo) (hr : Room 2 X.A) (hb : Binds X.K fd ["self"] []) (hg : Gl X x) (hm : X.mg x = some (.ref C)) (hdb : (x == ("__debug__" : Str)) = false := by decide) :
    PMk X (.Call (.Name x p0) [] [] pos) (fun _ H Q => ∀ H', (∀ b o, H b = some o → H' b = some o) → Q (.ref C) none H') := by
  intro pins s σ H Q I h
  obtain ⟨nm, q, N, bs, bm, sn, sub, ab, col, dd, k0, k1, k2, k3, k5, hC, hbm⟩ := T.cls
  refine wpAny_Call_Name_kw (ld_glob I hg hm (PySem.W.callWith_K0 I.kIn T.kC ?_) hdb)
  show wpAny _ _ (call (.ref C) []) _ _ _
  obtain ⟨hp, g, dr, tk, os⟩ := s
  have hsz : hp.objs.size ≤ hp.objs.size + 1 := Nat.le_succ _
  have hn : H (hp.objs.size + 1) = none := I.hok.fresh hsz
  have kk : ∀ b o, hp.get? b = some o → ((hp.push (PySem.W.kdv_tup [])).push (PySem.HandSPX.excO C hp.objs.size)).get? b = some o := fun b o e => Heap.get?_push_of_some _ (Heap.get?_push_of_some _ e)
  have hget : ((hp.push (PySem.W.kdv_tup [])).push (PySem.HandSPX.excO C hp.objs.size)).get? (hp.objs.size + 1) = some (PySem.HandSPX.excO C hp.objs.size) := by heap_get
  have I2 : Inv X pins σ (upd H (hp.objs.size + 1) (exo (hp.objs.size + 1) C none)) ⟨(hp.push (PySem.W.kdv_tup [])).push (PySem.HandSPX.excO C hp.objs.size), g, dr, tk, os⟩ :=
    I.laid (t' := tk) (a := hp.objs.size + 1) (o := exo (hp.objs.size + 1) C none) (h' := (hp.push (PySem.W.kdv_tup [])).push (PySem.HandSPX.excO C hp.objs.size)) kk hsz (exo_ok hget)
  have hq : spNo [V.ref (hp.objs.size + 1)] (upd H (hp.objs.size + 1) (exo (hp.objs.size + 1) C none)) (fun v H2 => v = .non ∧ H2 = upd H (hp.objs.size + 1) (exo (hp.objs.size + 1) C none)) (fun _ _ _ => False) := ⟨_, rfl, rfl, rfl⟩
  have hbb := hb ⟨(hp.push (PySem.W.kdv_tup [])).push (PySem.HandSPX.excO C hp.objs.size), g, dr, tk, os⟩ [Value.ref (hp.objs.size + 1)] I2.kIn rfl
  rw [List.append_nil] at hbb
  refine wpAny_call (PySem.HandSPX.call_own F.excBase_ValueError (fun Y => PySem.HandSPX.refsVE_contains Y bm hbm) (I.kIn _ _ hC) (PySem.W.looks_findIn I.kIn iC) (fun self => PySem.W.bind_fn I.kIn self tI) (by show 0 ≤ sizeLine; exact Nat.zero_le _)
    (codeAny_mono (F1.run _ X.stack _ _ ⟨[Value.ref (hp.objs.size + 1)], []⟩ [Value.ref (hp.objs.size + 1)] [V.ref (hp.objs.size + 1)] _ (fun _ _ _ => False) (hr.make C [] []) (I2.env0.make C [] []) hbb (.cons rfl .nil) hq) fun r s' hq' => ?_))
  cases r with
  | error er => exact False.elim (by obtain ⟨_, _, _, _, _, _, _, _, _, _, _, _, z⟩ := hq'; exact z)
  | ok fl =>
    cases fl with
    | ret u =>
      obtain ⟨v, H2, os2, bare2, un2, hok2, rv, ev, eH⟩ := hq'
      subst ev eH
      obtain ⟨h2, g2, d2, t2, os'⟩ := s'
      obtain ⟨t0, Gp, J, kG, ge, hoe⟩ := no_dict (d2 := d2) (t2 := t2) I hsz kk un2 hok2 os2 bare2 upd_same
      refine ⟨rv, hp.objs.size + 1, _, _, ⟨Gp, g2, d2, t2, os'⟩, _, .ref C, none, rfl, J, kG, ge, hoe, ⟨rfl, rfl⟩, rfl, rfl, del_same, rfl, bare2, raises_own T.exC T.tyC, h _ fun b o e => ?_⟩
      rw [del_ne (ne_of_none e hn), upd_ne (ne_of_none e hn)]
      exact e
    | next => exact False.elim hq'
    | brk => exact False.elim hq'
    | cont => exact False.elim hq'
theorem PenOk.mono {p : Fm} {H H' : Hp} {s : Pen} (h : PenOk G p H s) (k : ∀ b o, H b = some o → H' b = some o) : PenOk G p H' s := by
  refine ⟨fun b kd eb => ?_, fun x c dx e => ?_, fun b hb => ?_⟩
  · rcases h.1 b kd eb with ⟨e1, e2⟩ | ⟨e1, c, h0, h1, h2⟩
    · exact .inl ⟨e1, k _ _ e2⟩
    · exact .inr ⟨e1, c, h0, k _ _ h1, k _ _ h2⟩
  · obtain ⟨vs, h1, hl, h2⟩ := h.2.1 x c dx e
    exact ⟨vs, k _ _ h1, hl, repL_keep trivial (fun a o _ h => k a o h) _ _ h2⟩
  · obtain ⟨o, h1⟩ := h.2.2 b hb
    exact ⟨o, k _ _ h1⟩
theorem ds_raise0 {c : Nat} {e : Expr} {pos : Pos} (hc : X.calm = true) (tk : Takes X W) (hp : PMk X e (fun _ H Q => ∀ H', (∀ b o, H b = some o → H' b = some o) → Q (.ref (G.cls c)) none H')) :
    DS G X W (.Raise (some e) none pos) (fun _ σ H => ∀ H', (∀ b o, H b = some o → H' b = some o) → W (.ref (G.cls c)) none σ H') (fun ρ s => .exc c [] [] ρ s) := by
  refine ⟨ps_raise hc tk hp, fun p σ H ρ s Z e pk fin H' k => ?_⟩
  have kp : Keep p H H' := fun a o _ h => k a o h
  have pk' : PenOk G p H' s := pk.mono k
  exact fin none σ H' kp pk' (e.keep pk.at kp) ⟨[], rfl, .inl ⟨rfl, rfl⟩⟩
end
end Tw

set_option Elab.async false
set_option linter.all false
set_option maxRecDepth 100000
set_option maxHeartbeats 4000000
set_option autoImplicit false
namespace Tw
open PySem L2 PySem.Spec PyProof.Rows
section
variable {K : PySem.W.Frag} {G : Gt} {W : WX} {X : Cx}
/-! ### try .. except -/
def sTry (mb : MS) (mt : Nat → Option Bool) (hm : Nat → List Str → List D → MS) : MS := fun ρ s => match mb ρ s with
  | .exc c ns xs ρ' s' => (match mt c with
    | some true => hm c ns xs ρ' s'
    | some false => .exc c ns xs ρ' s'
    | none => .bad)
  | .nx ρ' s' => .nx ρ' s'
  | .ret d s' => .ret d s'
  | .bk ρ' s' => .bk ρ' s'
  | .ct ρ' s' => .ct ρ' s'
  | .bad => .bad
abbrev W0 : WX := fun _ _ _ _ => False
/-- a block's own reading, within a try; within an except suite -/
def tOwn (X : Cx) (body : List Stmt) (W' : WX) : TS := fun Z σ H => ∀ (pn : List (Addr × Obj)) (xe : Value → Shared → Prop), Takes (X.tr pn xe) W' → PassesOwn (model X.prog X.w) X.A X.env xe →
  ∀ (pins : List (Addr × Obj)) (s : Shared), L2.Inv (X.tr pn xe) pins σ H s → wpAny (model X.prog X.w) X.A (execs body X.env) (SP (X.tr pn xe) pins Z) xe s
def tSui (X : Cx) (su : List Stmt) (a : Addr) (cls : Value) (d : Option Addr) : TS := fun Z σ H => ∀ (oe : Obj) (pn : List (Addr × Obj)), Zc cls d oe → (∃ vs, oe.data = .fields vs) →
  ∀ (pins : List (Addr × Obj)) (s : Shared), L2.Inv (X.suite a ((a, oe) :: pn)) pins σ H s → wpAny (model X.prog X.w) (X.suite a ((a, oe) :: pn)).A (execs su X.env) (SP (X.suite a ((a, oe) :: pn)) pins Z) (fun _ _ => False) s
variable {x n : Str} {T : Nat} {body suite : List Stmt} {b₀ : Stmt} {np pos pos' : Pos} {mb : MS} {mt : Nat → Option Bool} {hm : Nat → List Str → List D → MS}
theorem own_run (hb : ∀ (W' : WX) (pn : List (Addr × Obj)) (xe : Value → Shared → Prop), Takes (X.tr pn xe) W' → PassesOwn (model X.prog X.w) X.A X.env xe → ∃ t, DSs G (X.tr pn xe) W' body t mb) (W' : WX) : RunS G W' (tOwn X body W') mb := by
  intro p σ H ρ s Z e pk fin pn xe tk po pins s1 I
  obtain ⟨t, dt⟩ := hb W' pn xe tk po
  exact dt.ps.run pins s1 σ H Z I (dt.run p σ H ρ s Z e pk fin)
theorem ds_try_only (hs : X.stack = X.env :: X.outer) (hf : X.env.frame = some X.env.locals) (hc : Names X x (.ref (G.cls T))) (tk : Takes X W) (hmt : ∀ c b, mt c = some b → PySem.W.exmOne X.K (.ref (G.cls c)) (.ref (G.cls T)) = some b)
    (hb : ∀ (W' : WX) (pn : List (Addr × Obj)) (xe : Value → Shared → Prop), Takes (X.tr pn xe) W' → PassesOwn (model X.prog X.w) X.A X.env xe → ∃ t, DSs G (X.tr pn xe) W' body t mb)
    (hsu : ∀ (a : Addr) (oe : Obj) (c : Nat) (ns : List Str) (xs : List D) (dd : Option Addr) (pn : List (Addr × Obj)), mt c = some true → Zc (.ref (G.cls c)) dd oe → (∃ vs, oe.data = .fields vs) → ∃ t, DSs G (X.suite a ((a, oe) :: pn)) W0 (b₀ :: suite) t (hm c ns xs)) :
    ∃ t, DS G X W (.Try body [.ExceptHandler (some (.Name x np)) none (b₀ :: suite) pos'] [] [] pos) t (sTry mb mt fun c ns xs ρ s => match hm c ns xs ρ s with | .exc _ _ _ _ _ => .bad | o => o) := by
  refine ⟨_, ps_try_only (tb := tOwn X body) (ts := tSui X (b₀ :: suite)) hs hf hc tk (fun W' pn xe tk' po => ⟨fun pins s σ H Z I h => h pn xe tk' po pins s I⟩) (fun a oe cls d pn hz hv => ⟨fun pins s σ H Z I h => h oe pn hz hv pins s I⟩), ?_⟩
  intro p σ H ρ s Z e pk fin
  refine own_run hb _ p σ H ρ s Z e pk ?_
  unfold sTry at fin
  cases q : mb ρ s with
  | nx ρ' s' => rw [q] at fin; exact fin
  | ret d s' => rw [q] at fin; exact fin
  | bk ρ' s' => rw [q] at fin; exact fin
  | ct ρ' s' => rw [q] at fin; exact fin
  | bad => rw [q] at fin; exact fin
  | exc c ns xs ρ' s' =>
    rw [q] at fin
    dsimp only at fin
    cases q2 : mt c with
    | none => rw [q2] at fin; exact False.elim fin
    | some b =>
      rw [q2] at fin
      intro dd σ' H' k' pk' e' x'
      refine ⟨b, hmt c b q2, fun hbt => ?_, fun hbf => ?_⟩
      · subst hbt
        intro a ha oe pn hz hv pins s1 I
        obtain ⟨t, dt⟩ := hsu a oe c ns xs dd pn q2 hz hv
        refine dt.ps.run pins s1 σ' H' Z I (dt.run p σ' H' ρ' s' Z e' pk' ?_)
        dsimp only at fin
        cases q3 : hm c ns xs ρ' s' with
        | exc c2 ns2 xs2 ρ2 s2 => rw [q3] at fin; exact False.elim fin
        | nx ρ2 s2 => rw [q3] at fin; exact fun σ2 H2 k2 => fin σ2 H2 (k'.trans k2)
        | ret d s2 => rw [q3] at fin; exact fun v H2 k2 => fin v H2 (k'.trans k2)
        | bk ρ2 s2 => rw [q3] at fin; exact fun σ2 H2 k2 => fin σ2 H2 (k'.trans k2)
        | ct ρ2 s2 => rw [q3] at fin; exact fun σ2 H2 k2 => fin σ2 H2 (k'.trans k2)
        | bad => rw [q3] at fin; exact False.elim fin
      · subst hbf
        exact fin dd σ' H' k' pk' e' x'

mutual
def noErr : D → Bool
  | .err _ _ _ => false
  | .lst xs => noErrL xs
  | .tup xs => noErrL xs
  | .ins _ _ xs => noErrL xs
  | _ => true
def noErrL : List D → Bool
  | [] => true
  | d :: ds => noErr d && noErrL ds
end
/-! data without an exception is the same whatever is handled -/
mutual
theorem rep_swap {G' : Gt} {p : Fm} {H : Hp} (hc : G'.cls = G.cls) : ∀ (d : D) (v : V), noErr d = true → Rep G p H d v → Rep G' p H d v
  | .non, _, _, h => h
  | .bl _, _, _, h => h
  | .int _, _, _, h => h
  | .str _, _, _, h => h
  | .ty _, _, _, h => h
  | .cls n, v, _, h => by show v = .ref (G'.cls n); rw [hc]; exact h
  | .pen, _, _, h => h
  | .bag, _, _, h => h
  | .self, _, _, h => h
  | .lst ds, v, e, h => by
    obtain ⟨a, vs, e1, q0, q1, q2⟩ := h
    exact ⟨a, vs, e1, q0, q1, repL_swap hc ds vs e q2⟩
  | .tup ds, v, e, h => by
    obtain ⟨a, vs, e1, q0, q1, q2⟩ := h
    exact ⟨a, vs, e1, q0, q1, repL_swap hc ds vs e q2⟩
  | .ins n ns ds, v, e, h => by
    obtain ⟨a, dx, vs, e1, q0, q1, q3, q2⟩ := h
    exact ⟨a, dx, vs, e1, q0, by rw [hc]; exact q1, q3, repL_swap hc ds vs e q2⟩
  | .err _ _ _, _, e, _ => by cases e
theorem repL_swap {G' : Gt} {p : Fm} {H : Hp} (hc : G'.cls = G.cls) : ∀ (ds : List D) (vs : List V), noErrL ds = true → RepL G p H ds vs → RepL G' p H ds vs
  | [], _, _, h => h
  | d :: ds, vs, e, h => by
    obtain ⟨v, r, e1, q1, q2⟩ := h
    have e' : (noErr d && noErrL ds) = true := e
    rw [Bool.and_eq_true] at e'
    exact ⟨v, r, e1, rep_swap hc d v e'.1 q1, repL_swap hc ds r e'.2 q2⟩
end
mutual
theorem noErr_of {p : Fm} {H : Hp} (hn : G.err = none) : ∀ (d : D) (v : V), Rep G p H d v → noErr d = true
  | .non, _, _ => rfl
  | .bl _, _, _ => rfl
  | .int _, _, _ => rfl
  | .str _, _, _ => rfl
  | .ty _, _, _ => rfl
  | .cls _, _, _ => rfl
  | .pen, _, _ => rfl
  | .bag, _, _ => rfl
  | .self, _, _ => rfl
  | .lst ds, v, h => by
    obtain ⟨a, vs, e1, q0, q1, q2⟩ := h
    exact noErrL_of hn ds vs q2
  | .tup ds, v, h => by
    obtain ⟨a, vs, e1, q0, q1, q2⟩ := h
    exact noErrL_of hn ds vs q2
  | .ins n ns ds, v, h => by
    obtain ⟨a, dx, vs, e1, q0, q1, q3, q2⟩ := h
    exact noErrL_of hn ds vs q2
  | .err _ _ _, _, h => by
    obtain ⟨a, dd, vs, _, q, _⟩ := h
    rw [hn] at q
    cases q
theorem noErrL_of {p : Fm} {H : Hp} (hn : G.err = none) : ∀ (ds : List D) (vs : List V), RepL G p H ds vs → noErrL ds = true
  | [], _, _ => rfl
  | d :: ds, vs, h => by
    obtain ⟨v, r, e1, q1, q2⟩ := h
    show (noErr d && noErrL ds) = true
    rw [noErr_of hn d v q1, noErrL_of hn ds r q2]
    all_goals rfl
end
def cleanD (o : Option D) : Option D := match o with
  | some d => if noErr d = true then some d else none
  | none => none
def clean (ρ : Loc) : Loc := ρ.map cleanD
theorem EnvOk.clean {G' : Gt} {p : Fm} {H : Hp} {σ : L2.St} {ρ : Loc} (hc : G.cls = G'.cls) (e : EnvOk G' p H σ ρ) : EnvOk G p H σ (clean ρ) := by
  refine ⟨by unfold Tw.clean; rw [List.length_map]; exact e.1, fun i d h => ?_⟩
  unfold Tw.clean at h
  rw [List.getElem?_map] at h
  cases q : ρ[i]? with
  | none => rw [q] at h; cases h
  | some o =>
    rw [q] at h
    cases o with
    | none => cases h
    | some x =>
      have h : some (if noErr x = true then some x else none) = some (some d) := h
      by_cases hx : noErr x = true
      · rw [if_pos hx] at h
        cases h
        obtain ⟨v, h1, h2⟩ := e.2 i d q
        exact ⟨v, h1, rep_swap hc d v hx h2⟩
      · rw [if_neg hx] at h; cases h
theorem EnvOk.err {p : Fm} {H : Hp} {σ : L2.St} {ρ : Loc} {G' : Gt} (hn : G.err = none) (hc : G'.cls = G.cls) (e : EnvOk G p H σ ρ) : EnvOk G' p H σ ρ :=
  ⟨e.1, fun i d h => let ⟨v, h1, h2⟩ := e.2 i d h; ⟨v, h1, rep_swap hc d v (noErr_of hn d v h2) h2⟩⟩
theorem EnvOk.unset {p : Fm} {H : Hp} {σ : L2.St} {ρ : Loc} {i : Nat} (e : EnvOk G p H σ ρ) : EnvOk G p H (σ.set i none) (ρ.set i none) := by
  refine ⟨by simp [e.1], fun j x hx => ?_⟩
  rw [List.getElem?_set] at hx
  by_cases hij : i = j
  · subst hij
    simp only [if_true] at hx
    split at hx <;> cases hx
  · rw [if_neg hij] at hx
    obtain ⟨u, h1, h2⟩ := e.2 j x hx
    exact ⟨u, by rw [List.getElem?_set, if_neg hij]; exact h1, h2⟩
/-- behind the suite of «except X as n» -/
def backOf (i : Nat) (o : OutS) : OutS := match o with
  | .nx ρ s => .nx (clean (ρ.set i none)) s
  | .ret d s => if noErr d = true then .ret d s else .bad
  | .bk ρ s => .bk (clean (ρ.set i none)) s
  | .ct ρ s => .ct (clean (ρ.set i none)) s
  | _ => .bad
abbrev Gt.at (G : Gt) (a : Addr) (c : Nat) (dd : Option Addr) : Gt := ⟨G.cls, some (a, c, dd)⟩
theorem ds_try_as {i : Nat} {nf : Nat → Bool} {hs1 : Nat → MS} (hn : G.err = none) (hs : X.stack = X.env :: X.outer) (hf : X.env.frame = some X.env.locals) (hN : X.N.Nodup) (hi : X.N[i]? = some n) (hln : X.env.kindOf n = some .local) (hc : Names X x (.ref (G.cls T))) (tk : Takes X W) (hmt : ∀ c b, mt c = some b → PySem.W.exmOne X.K (.ref (G.cls c)) (.ref (G.cls T)) = some b)
    (hb : ∀ (W' : WX) (pn : List (Addr × Obj)) (xe : Value → Shared → Prop), Takes (X.tr pn xe) W' → PassesOwn (model X.prog X.w) X.A X.env xe → ∃ t, DSs G (X.tr pn xe) W' body t mb)
    (hsu : ∀ (a : Addr) (oe : Obj) (c : Nat) (dd : Option Addr) (pn : List (Addr × Obj)), mt c = some true → (nf c = true → dd = none) → Zc (.ref (G.cls c)) dd oe → (∃ vs, oe.data = .fields vs) → ∃ t, DSs (G.at a c dd) (X.suite a ((a, oe) :: pn)) W0 (b₀ :: suite) t (hs1 c)) :
    ∃ t, DS G X W (.Try body [.ExceptHandler (some (.Name x np)) (some n) (b₀ :: suite) pos'] [] [] pos) t (sTry mb mt fun c ns xs ρ s => if (nf c && !ns.isEmpty) = true then .bad else backOf i (hs1 c (ρ.set i (some (.err c ns xs))) s)) := by
  refine ⟨_, ps_try_as (tb := tOwn X body) (ts := tSui X (b₀ :: suite)) hs hf hN hi hln hc tk (fun W' pn xe tk' po => ⟨fun pins s σ H Z I h => h pn xe tk' po pins s I⟩) (fun a oe cls d pn hz hv => ⟨fun pins s σ H Z I h => h oe pn hz hv pins s I⟩), ?_⟩
  intro p σ H ρ s Z e pk fin
  refine own_run hb _ p σ H ρ s Z e pk ?_
  unfold sTry at fin
  cases q : mb ρ s with
  | nx ρ' s' => rw [q] at fin; exact fin
  | ret d s' => rw [q] at fin; exact fin
  | bk ρ' s' => rw [q] at fin; exact fin
  | ct ρ' s' => rw [q] at fin; exact fin
  | bad => rw [q] at fin; exact fin
  | exc c ns xs ρ' s' =>
    rw [q] at fin
    dsimp only at fin
    cases q2 : mt c with
    | none => rw [q2] at fin; exact False.elim fin
    | some b =>
      rw [q2] at fin
      intro dd σ' H' k' pk' e' x'
      refine ⟨b, hmt c b q2, fun hbt => ?_, fun hbf => ?_⟩
      · subst hbt
        intro a ha oe pn hz hv pins s1 I
        obtain ⟨us, rus, xk⟩ := x'
        by_cases hnf : (nf c && !ns.isEmpty) = true
        · dsimp only at fin
          rw [if_pos hnf] at fin
          exact False.elim fin
        dsimp only at fin
        rw [if_neg hnf] at fin
        have hdd : nf c = true → dd = none := fun z => by
          rcases xk with z2 | ⟨b, gs, e0, _⟩
          · exact z2.2
          · refine absurd ?_ hnf
            rw [z]
            cases ns with
            | nil => exact absurd rfl e0
            | cons _ _ => rfl
        obtain ⟨t, dt⟩ := hsu a oe c dd pn q2 hdd hz hv
        have rx : Rep (G.at a c dd) p H' (.err c ns xs) (.ref a) := ⟨a, dd, us, rfl, rfl, repL_swap (G := G) (G' := G.at a c dd) rfl xs us (noErrL_of hn xs us rus) rus, xk⟩
        refine dt.ps.run pins s1 _ H' _ I (dt.run p _ H' (ρ'.set i (some (.err c ns xs))) s' _ ((EnvOk.err (G' := G.at a c dd) hn rfl e').set rx) pk' ?_)
        cases q3 : hs1 c (ρ'.set i (some (.err c ns xs))) s' with
        | exc c2 ns2 xs2 ρ2 s2 => rw [q3] at fin; exact False.elim fin
        | nx ρ2 s2 => rw [q3] at fin; exact fun σ2 H2 k2 pk2 e2 => fin _ H2 (k'.trans k2) pk2 (EnvOk.clean (G := G) (G' := G.at a c dd) rfl e2.unset)
        | bk ρ2 s2 => rw [q3] at fin; exact fun σ2 H2 k2 pk2 e2 => fin _ H2 (k'.trans k2) pk2 (EnvOk.clean (G := G) (G' := G.at a c dd) rfl e2.unset)
        | ct ρ2 s2 => rw [q3] at fin; exact fun σ2 H2 k2 pk2 e2 => fin _ H2 (k'.trans k2) pk2 (EnvOk.clean (G := G) (G' := G.at a c dd) rfl e2.unset)
        | ret d s2 =>
          rw [q3] at fin
          have fin : FinS G W p H Z (if noErr d = true then .ret d s2 else .bad) := fin
          by_cases hd : noErr d = true
          · rw [if_pos hd] at fin
            exact fun v H2 k2 pk2 rd => fin v H2 (k'.trans k2) pk2 (rep_swap (G := G.at a c dd) (G' := G) rfl d v hd rd)
          · rw [if_neg hd] at fin; exact False.elim fin
        | bad => rw [q3] at fin; exact False.elim fin
      · subst hbf
        exact fin dd σ' H' k' pk' e' x'
/-- isinstance(n, C), n the exception that is handled, without fields -/
def isiE (ans : Nat → Option Bool) (d : D) : M D := match d with
  | .err c _ _ => (match ans c with
    | some b => mret (.bl b)
    | none => mbad)
  | _ => mbad
theorem de_isE {a : Addr} {oe : Obj} {pn : List (Addr × Obj)} {c T' : Nat} {ans : Nat → Option Bool} {p0 : Pos} {xn cn : Str} {p1 p2 : Pos} {i : Nat} (C : ExcC X.K (G.cls c)) (hz : Zc (.ref (G.cls c)) none oe) (hf : ∃ vs, oe.data = .fields vs)
    (ha : ∀ b, ans c = some b → PySem.W.kitOne X.K (.ref (G.cls c)) (.ref (G.cls T')) = some b)
    (hg : Gl (X.suite a ((a, oe) :: pn)) "isinstance") (hmI : X.mg "isinstance" = none) (hgc : Gl (X.suite a ((a, oe) :: pn)) cn) (hmc : X.mg cn = some (.ref (G.cls T')))
    (hx : DE (G.at a c none) (X.suite a ((a, oe) :: pn)) W0 (.Name xn p1) (tVar i) (mvar i)) (hdc : (cn == ("__debug__" : Str)) = false := by decide) :
    DE (G.at a c none) (X.suite a ((a, oe) :: pn)) W0 (.Call (.Name "isinstance" p0) [.Name xn p1, .Name cn p2] [] pos) (tCB (rIsE X.K (G.cls c) a) (tCons (tVar i) (tCons (tC (.ref (G.cls T'))) tNil))) (fun ρ => mbind (mvar i ρ) (isiE ans)) := by
  refine ⟨pe_callB (call_isE C hz hf) hg hmI (by decide +kernel) (pa_cons hx.pe (pa_cons (pe_glob hgc hmc rfl hdc) pa_nil)), fun p σ H ρ s Q e pk fin => ?_⟩
  refine hx.run p σ H ρ s _ e pk (fin.step fun d s1 v H1 k1 pk1 rd fin1 => ?_)
  unfold isiE at fin1
  cases d <;> first
    | exact False.elim fin1
    | skip
  rename_i c2 ns xs
  obtain ⟨a2, dd, us, rfl, q0, _⟩ := rd
  have q0' : (a, c, (none : Option Addr)) = (a2, c2, dd) := Option.some.inj q0
  obtain ⟨rfl, q1⟩ := Prod.mk.inj q0'
  obtain ⟨rfl, rfl⟩ := Prod.mk.inj q1
  dsimp only at fin1
  cases q : ans c with
  | none => rw [q] at fin1; exact False.elim fin1
  | some b =>
    rw [q] at fin1
    exact ⟨.ref (G.cls T'), .ref (G.cls T'), b, rfl, fun u r => r, ha b q, fin1 _ H1 Keep.refl pk1 rfl⟩
end
end Tw

set_option Elab.async false
set_option linter.all false
set_option maxRecDepth 100000
set_option maxHeartbeats 4000000
set_option autoImplicit false
namespace Tw
open PySem L2 PySem.Spec PyProof.Rows
section
variable {K : PySem.W.Frag} {G : Gt} {W : WX} {X : Cx}
/-! ### the pen's items -/
inductive Fl where
  | cells | next | digits | rest | seed | turn
def Fl.key : Fl → Str
  | .cells => "cells"
  | .next => "next"
  | .digits => "digits"
  | .rest => "rest"
  | .seed => "seed"
  | .turn => "turn"
def Pen.get (s : Pen) : Fl → D
  | .cells => .lst (s.cells.map D.int)
  | .next => .int s.next
  | .digits => .int s.digits
  | .rest => .int s.rest
  | .seed => .int s.seed
  | .turn => .int s.turn
def Pen.put (s : Pen) (f : Fl) (d : D) : Option Pen := match f, d with
  | .next, .int i => if decide (0 ≤ i) = true then some { s with next := i.toNat } else none
  | .digits, .int i => some { s with digits := i }
  | .rest, .int i => some { s with rest := i }
  | .seed, .int i => some { s with seed := i }
  | .turn, .int i => some { s with turn := i }
  | _, _ => none
theorem kne {a b : Str} (h : ¬ a = b) : ¬ (Sum.inr a : Key) = Sum.inr b := fun z => h (Sum.inr.inj z)
theorem val_pen (c : Addr) (s : Pen) (f : Fl) : valV (penKV c s) (Sum.inr f.key : Key) = some (match f with | .cells => .ref c | .next => .int s.next | .digits => .int s.digits | .rest => .int s.rest | .seed => .int s.seed | .turn => .int s.turn) := by
  cases f <;> rfl
theorem put_pen (c : Addr) (s s' : Pen) (f : Fl) (i : Int) (h : s.put f (.int i) = some s') : putK (penKV c s) (Sum.inr f.key : Key) (.int i) = penKV c s' := by
  cases f
  · cases h
  · have h : (if decide (0 ≤ i) = true then some { s with next := i.toNat } else none) = some s' := h
    by_cases hi : 0 ≤ i
    · rw [if_pos (decide_eq_true hi)] at h
      cases h
      have e : i = ((i.toNat : Nat) : Int) := (Int.toNat_of_nonneg hi).symm
      show putK (penKV c s) (Sum.inr "next" : Key) (.int i) = ([(Sum.inr "cells", .ref c), (Sum.inr "next", .int ((i.toNat : Nat) : Int)), (Sum.inr "digits", .int s.digits), (Sum.inr "rest", .int s.rest), (Sum.inr "seed", .int s.seed), (Sum.inr "turn", .int s.turn)] : List (Key × V))
      rw [← e]
      rfl
    · rw [if_neg (by simp [hi])] at h; cases h
  all_goals (cases h; rfl)

theorem rep_ints {p : Fm} {H : Hp} : ∀ ns : List Int, RepL G p H (ns.map D.int) (ns.map V.int)
  | [] => rfl
  | n :: ns => ⟨.int n, ns.map V.int, rfl, rfl, rep_ints ns⟩
/-- pen['f'] -/
def penGet (fe : Loc → M D) (f : Fl) : Loc → M D := fun ρ => mbind (fe ρ) fun d => fun s => match d with
  | .pen => .ok (s.get f) s
  | _ => .bad
variable {o : Expr} {to : TE} {fo fv : Loc → M D} {pos pos' : Pos} {j : Nat} {pk : Pos} {value : Expr} {tv : TE}
theorem de_penGet (f : Fl) (hu : X.A.units + 1 < cLine) (ho : DE G X W o to fo) {z : Str} (hz : z = f.key) : DE G X W (.Subscript o (.Constant (.str z) j pk) pos) (tDGet to (tC (.str z))) (penGet fo f) := by
  subst hz
  refine ⟨pe_dget hu ho.pe pe_str (fun _ _ => rfl), fun p σ H ρ s Q e pk fin => ?_⟩
  refine ho.run p σ H ρ s _ e pk (fin.step fun d s1 v H1 k1 pk1 rd fin1 => ?_)
  cases d <;> first
    | exact False.elim fin1
    | skip
  obtain ⟨a, ea, rfl⟩ := rd
  obtain ⟨-, c, hc, h1, h2⟩ := (pk1.1 a false ea).resolve_left fun z => nomatch z.1
  have hg := DGet.k (k := (Sum.inr f.key : Key)) h1
  rw [val_pen] at hg
  refine ⟨a, _, rfl, hg, fin1 _ H1 Keep.refl pk1 ?_⟩
  cases f <;> first
    | rfl
    | exact ⟨c, _, rfl, hc, h2, rep_ints _⟩
/-- pen['f'] = v -/
def penPut (fo fv : Loc → M D) (f : Fl) : MS := fun ρ s => sof (fv ρ s) ρ fun d s1 => sof (fo ρ s1) ρ fun x s2 => match x with
  | .pen => (match s2.put f d with
    | some s3 => .nx ρ s3
    | none => .bad)
  | _ => .bad
theorem ds_penPut (f : Fl) (hu : X.A.units + 1 < cLine) (ho : DE G X W o to fo) (hv : DE G X W value tv fv) {z : Str} (hz : z = f.key) (hs : swapsWith value (some (.Subscript o (.Constant (.str z) j pk) pos')) pos.line X.env = pure false := by rfl) :
    DS G X W (.Assign [.Subscript o (.Constant (.str z) j pk) pos'] value pos) (sDPut to (tC (.str z)) tv) (penPut fo fv f) := by
  subst hz
  refine ⟨ps_dput hu ho.pe pe_str hv.pe hs, fun p σ H ρ s Z e pk fin => ?_⟩
  refine hv.run p σ H ρ s _ e pk (FinS.step fin (fun H1 s1 k1 pk1 => e.keep pk.at k1) fun d s1 v H1 k1 pk1 rd fin1 => ?_)
  have e1 := e.keep pk.at k1
  refine ho.run p σ H1 ρ s1 _ e1 pk1 (FinS.step fin1 (fun H2 s2 k2 pk2 => e1.keep pk1.at k2) fun x s2 vx H2 k2 pk2 rx fin2 => ?_)
  cases x <;> first
    | exact False.elim fin2
    | skip
  obtain ⟨a, ea, rfl⟩ := rx
  dsimp only at fin2
  obtain ⟨-, c, hc, h1, h2⟩ := (pk2.1 a false ea).resolve_left fun z => nomatch z.1
  cases q : s2.put f d with
  | none => rw [q] at fin2; exact False.elim fin2
  | some s3 =>
    rw [q] at fin2
    have hi : ∃ i, d = .int i := by
      cases f <;> cases d <;> first
        | exact ⟨_, rfl⟩
        | cases q
    obtain ⟨i, rfl⟩ := hi
    obtain rfl : v = .int i := rd
    refine ⟨a, _, rfl, DPut.k (k := (Sum.inr f.key : Key)) h1 (by show 6 < sizeLine; decide), ?_⟩
    have hcell : s3.cells = s2.cells ∧ s3.obj = s2.obj ∧ s3.ocls = s2.ocls := by
      cases f <;> first
        | (cases q; exact ⟨rfl, rfl, rfl⟩)
        | (cases q; done)
        | (have q : (if decide (0 ≤ i) = true then some { s2 with next := i.toNat } else none) = some s3 := q
           split at q
           · cases q; exact ⟨rfl, rfl, rfl⟩
           · cases q)
    rw [put_pen c s2 s3 f i q]
    have hca : c ≠ a := ne_of h2 h1 (fun z => nomatch z)
    obtain ⟨hc1, hc3, hc4⟩ := hcell
    have ha : p.out a := p.okp a false ea
    have kk : Keep p H2 (upd H2 a (.dK (penKV c s3))) := fun b u n eb => by
      rw [upd_ne (fun z => n (.inl ⟨false, by rw [z]; exact ea⟩))]; exact eb
    have pk3 : PenOk G p (upd H2 a (.dK (penKV c s3))) s3 := by
      refine ⟨fun b kd eb => ?_, fun x c' dx e => ?_, fun b hb => ?_⟩
      · have eab : (a, false) = (b, kd) := Option.some.inj (ea.symm.trans eb)
        cases eab
        exact .inr ⟨rfl, c, hc, upd_same, by rw [upd_ne hca, hc1]; exact h2⟩
      · obtain ⟨vs, h3, hl, h4⟩ := pk2.2.1 x c' dx e
        rw [hc3, hc4]
        exact ⟨vs, by rw [upd_ne (ne_of h3 h1 (fun z => nomatch z))]; exact h3, hl, repL_upd ha _ _ h4⟩
      · by_cases z : b = a
        · subst z; exact ⟨_, upd_same⟩
        · rw [upd_ne z]; exact pk2.2.2 b hb
    exact fin2 σ _ kk pk3 ((e1.keep pk1.at k2).keep pk2.at kk)
end
end Tw

set_option Elab.async false
set_option linter.all false
set_option maxRecDepth 100000
set_option maxHeartbeats 4000000
set_option autoImplicit false
namespace Tw
open PySem L2 PySem.Spec PyProof.Rows
section
variable {K : PySem.W.Frag} {G : Gt} {W : WX} {X : Cx}
/-- // and % by any divisor but 0 -/
def CDivX (_ j : Int) : Prop := j ≠ 0 ∧ j.natAbs.log2 < 9000
theorem op_fdivX : OpR X (binaryOp .FloorDiv) (rI CDivX fun i j => .int (i.fdiv j)) := opI fun i j _ _ _ _ _ hc q => floordiv_int hc.1 q (.inl (PyProof.noPylong_of_log2 hc.2))
def fdvI : D → D → M D := int2c (fun _ j => decide (j ≠ 0 ∧ j.natAbs.log2 < 9000)) fun i j => .int (i.fdiv j)
def fmdI : D → D → M D := int2c (fun _ j => decide (j ≠ 0)) fun i j => .int (i.fmod j)
theorem prim_fdv : Prim2 G (rI CDivX fun i j => .int (i.fdiv j)) fdvI := prim_I (fun i j h => of_decide_eq_true (p := j ≠ 0 ∧ j.natAbs.log2 < 9000) h) fun _ _ _ _ => rfl
theorem prim_fmd : Prim2 G (rI (fun _ j => j ≠ 0) fun i j => .int (i.fmod j)) fmdI := prim_I (fun i j h => of_decide_eq_true (p := j ≠ 0) h) fun _ _ _ _ => rfl
theorem cr_isi (hK : X.K = K) : CallR X (.builtin "isinstance") (rIsi K) := by subst hK; exact call_isi
theorem cr_len (hK : X.K = K) : CallR X (.builtin "len") (fun xs H Q => ∃ p ys, xs = [.ref p] ∧ (SqL K H p ys ∨ SqT K H p ys) ∧ Q (.int ys.length) H) := by subst hK; exact call_len_seq
variable {a b c e : Expr} {ta te : TE} {fa fe : Loc → M D} {pos : Pos} {tA : TA} {fA : Loc → M (List D)}
theorem ds_setLc {i : Nat} {y : Str} {py spos : Pos} {tg iter elt : Expr} {ifs : List Expr} {scope : Scope} {own : List (Str × Nat)} {wi : TI} {g : TG} {gm : D → Loc → Option Loc} {fi : Loc → M (List D)} {tt : TT} {mt : Loc → M Bool} (hc : X.calm = true) (hN : X.N.Nodup) (hy : X.N[i]? = some y) (hyl : X.env.scope.names.lookup y = some .local)
    (hsw : swapsWith (.ListComp elt [⟨tg, iter, ifs, 0⟩] scope pos) (some (.Name y py)) spos.line X.env = pure true) (hi : DI G X W tg iter wi fi) (ok : BlkOk X.N X.env.scope scope own)
    (hg : ∀ (s : Shared) (H : Hp) (C : Addr) (cl : List (Str × Addr)) (fp : List Addr), DG G (X.blk s H scope (compEnvC scope cl C X.env) fp) (own.map (·.2)) tg g gm) (ht : ∀ (s : Shared) (H : Hp) (C : Addr) (cl : List (Str × Addr)) (fp : List Addr), PTs (X.blk s H scope (compEnvC scope cl C X.env) fp) ifs tt) (htr : RunG G W0 RelB tt mt)
    (he : ∀ (s : Shared) (H : Hp) (C : Addr) (cl : List (Str × Addr)) (fp : List Addr), DE G (X.blk s H scope (compEnvC scope cl C X.env) fp) W0 elt te fe) (hs : ∀ x, foldedSetIterable iter X.env x = pure x := by intro _; rfl) :
    DS G X W (.Assign [.Name y py] (.ListComp elt [⟨tg, iter, ifs, 0⟩] scope pos) spos) (tAsg (tLc wi g tt te (own.map (·.2))) (gName i)) (sasg (fun ρ => mbind (fi ρ) fun ds => mbind (cloop gm mt fe ds (wipeL ρ (own.map (·.2))) []) lstD) (gnm i)) :=
  ⟨ps_setLc hc hN hy hyl hsw hi.pi ok (fun s H C cl fp => (hg s H C cl fp).pg) ht (fun s H C cl fp => (he s H C cl fp).pe) hs, run_asg (run_lc hi.run (hg X.s_0 (fun _ => none) 0 [] []).run htr (he X.s_0 (fun _ => none) 0 [] []).run) run_gname⟩
theorem run_yes : RunG G W RelB tYes (fun _ => mret true) := fun p σ H ρ s Q e pk fin => fin _ H Keep.refl pk rfl
theorem ds_par {i j : Nat} {x y : Str} {px py pt : Pos} {kt k2 pt2} (hc : X.calm = true) (hN : X.N.Nodup) (hi : X.N[i]? = some x) (hj : X.N[j]? = some y) (hij : i ≠ j)
    (hx : X.env.scope.names.lookup x = some .local) (hy : X.env.scope.names.lookup y = some .local) (ha : DA G X W [a, b] tA fA)
    (hw : swappedStores [.Tuple [.Name x px, .Name y py] kt pt] (.Tuple [a, b] k2 pt2) X.env = pure (some [x, y]) := by rfl)
    (hs : swapsWithSole [.Tuple [.Name x px, .Name y py] kt pt] (.Tuple [a, b] k2 pt2) pos.line X.env = pure false := by rfl) :
    DS G X W (.Assign [.Tuple [.Name x px, .Name y py] kt pt] (.Tuple [a, b] k2 pt2) pos) (tPar i j tA) (spar i j fA) := ⟨ps_par hc hN hi hj hij hx hy ha.pa hw hs, run_par ha.run⟩
/-- a def of the text, with its name in the module -/
structure Dfn (K : PySem.W.Frag) (mg : Str → Option Value) (x qual : Str) (st : Stmt) (ps : List Str) (f : Addr) (fd : FuncData) : Prop where
  fn : Fun K x qual st f fd
  m : mg x = some (.ref f)
  b : L2.Binds K fd ps []
/-- an own error whose __init__ does nothing -/
structure Err0 (K : PySem.W.Frag) (mg : Str → Option Value) (x : Str) (C fI : Addr) (st : Stmt) (qual : Str) (fd : FuncData) : Prop where
  ox : OexC K C
  fi : PySem.W.findIn K (.ref C) "__init__" = some (some (.ref fI))
  ti : PySem.W.typeIn K (.ref fI) = some (.type "function")
  fn : Fun K "__init__" qual st fI fd
  bd : L2.Binds K fd ["self"] []
  m : mg x = some (.ref C)

/-! ### the pen is made -/
variable {P : Program} {w : World} {mg : Str → Option Value} {base : Heap}
def pen0 (ns : List Int) (seed : Int) : Pen := ⟨ns, 0, 0, 0, seed, 0, [], 0⟩
/-- a list of whole numbers comes in, a pen goes out -/
def spPen (K : PySem.W.Frag) : Sp := fun vs H Q _ => ∃ (a : Addr) (ns : List Int), vs = [.ref a] ∧ SqL K H a (ns.map V.int) ∧
  ∀ (seed : Int) (H' : Hp) (p c : Addr), Same H H' → H p = none → H c = none → H' p = some (.dK (penKV c (pen0 ns seed))) → H' c = some (.lst (ns.map V.int)) → Q (.ref p) H'
end
end Tw

set_option Elab.async false
set_option linter.all false
set_option maxRecDepth 100000
set_option maxHeartbeats 4000000
set_option autoImplicit false
namespace Tw
open PySem L2 PySem.Spec PyProof.Rows
/-! ### mirrors by name -/
def kC (d : D) : Loc → M D := fun _ => mret d
def kOp (f : D → D → M D) (fa fb : Loc → M D) : Loc → M D := fun ρ => mbind (fa ρ) fun x => mbind (fb ρ) fun y => f x y
def kUn (f : D → M D) (fa : Loc → M D) : Loc → M D := fun ρ => mbind (fa ρ) f
def kB (fa : Loc → M D) : Loc → M Bool := fun ρ => mbind (fa ρ) asB
def kAnd (f1 f2 : Loc → M Bool) : Loc → M Bool := fun ρ => mbind (f1 ρ) fun c => if c = true then f2 ρ else mret false
def kOr (f1 f2 : Loc → M Bool) : Loc → M Bool := fun ρ => mbind (f1 ρ) fun c => if c = true then mret true else f2 ρ
def kNot (f1 : Loc → M Bool) : Loc → M Bool := fun ρ => mbind (f1 ρ) fun c => mret (!c)
def kAndV (fa fb : Loc → M D) : Loc → M D := fun ρ => mbind (mbind (fa ρ) asB) fun c => if c = true then fb ρ else mret (.bl false)
def kOrV (fa fb : Loc → M D) : Loc → M D := fun ρ => mbind (mbind (fa ρ) asB) fun c => if c = true then mret (.bl true) else fb ρ
def kNotV (fa : Loc → M D) : Loc → M D := fun ρ => mbind (mbind (fa ρ) asB) fun c => mret (.bl (!c))
def kIf (f1 : Loc → M Bool) (fa fb : Loc → M D) : Loc → M D := fun ρ => mbind (f1 ρ) fun c => if c = true then fa ρ else fb ρ
def kCh (f f' : D → D → M D) (fa fb fc : Loc → M D) : Loc → M D := fun ρ => mbind (fa ρ) fun x => mbind (fb ρ) fun y => mbind (mbind (f x y) asB) fun k => if k = true then mbind (fc ρ) fun z => f' y z else mret (.bl false)
def aNil : Loc → M (List D) := fun _ => mret []
def aCons (fe : Loc → M D) (fA : Loc → M (List D)) : Loc → M (List D) := fun ρ => mbind (fe ρ) fun x => mbind (fA ρ) fun xs => mret (x :: xs)
def kCall (m : List D → M D) (fA : Loc → M (List D)) : Loc → M D := fun ρ => mbind (fA ρ) m
def kLc (fi : Loc → M (List D)) (gm : D → Loc → Option Loc) (mt : Loc → M Bool) (fe : Loc → M D) (vs : List Nat) : Loc → M D := fun ρ => mbind (fi ρ) fun ds => mbind (cloop gm mt fe ds (wipeL ρ vs) []) lstD
def iL (fe : Loc → M D) : Loc → M (List D) := fun ρ => mbind (fe ρ) asL
def iT (fe : Loc → M D) : Loc → M (List D) := fun ρ => mbind (fe ρ) asT
def iR1 (fA : Loc → M (List D)) : Loc → M (List D) := fun ρ => mbind (fA ρ) rng1
def iR2 (fA : Loc → M (List D)) : Loc → M (List D) := fun ρ => mbind (fA ρ) rng2
def zNx : MS := fun ρ s => .nx ρ s
def zBk : MS := fun ρ s => .bk ρ s
def zCt : MS := fun ρ s => .ct ρ s
def zEx (fe : Loc → M D) : MS := fun ρ s => sof (fe ρ s) ρ fun _ s' => .nx ρ s'
def zRet (fe : Loc → M D) : MS := fun ρ s => sof (fe ρ s) ρ fun d s' => .ret d s'
def zRetN : MS := fun _ s => .ret .non s
def zIf (f1 : Loc → M Bool) (m m' : MS) : MS := fun ρ s => sof (f1 ρ s) ρ fun k s' => if k = true then m ρ s' else m' ρ s'
def zRaise (c : Nat) : MS := fun ρ s => .exc c [] [] ρ s
def oT (mt : Nat → Option Bool) (mb : MS) (hm : MS) : MS := sTry mb mt fun c ns xs ρ s => match hm ρ s with | .exc _ _ _ _ _ => .bad | o => o
def oA (i : Nat) (mt : Nat → Option Bool) (nf : Nat → Bool) (mb : MS) (hm : Nat → MS) : MS := sTry mb mt fun c ns xs ρ s => if (nf c && !ns.isEmpty) = true then .bad else backOf i (hm c (ρ.set i (some (.err c ns xs))) s)
section
variable {K : PySem.W.Frag} {G : Gt} {W : WX} {X : Cx}
variable {a b c e : Expr} {es rest : List Expr} {ta tb tc te : TE} {fa fb fc fe : Loc → M D} {r r' : R2} {f f' : D → D → M D} {pos : Pos} {tA : TA} {fA : Loc → M (List D)} {A1 A2 : TT} {f1 f2 : Loc → M Bool} {t u : TS} {m m' mb : MS} {sts : List Stmt} {st : Stmt}
theorem x_int {i : Int} {j : Nat} : DE G X W (.Constant (.int i) j pos) (tC (.int i)) (kC (.int i)) := de_int
theorem x_bl {i : Bool} {j : Nat} : DE G X W (.Constant (.bool i) j pos) (tC (.bl i)) (kC (.bl i)) := de_bl
theorem x_non {j : Nat} : DE G X W (.Constant .none j pos) (tC .non) (kC .non) := de_non
theorem x_str {x : Str} {j : Nat} : DE G X W (.Constant (.str x) j pos) (tC (.str x)) (kC (.str x)) := de_str
theorem x_ty {x : Str} {n : String} (hm : X.mg x = none) (hv : bootBuiltins x = some (.type n)) (hg : Gl X x := by rfl) (hn : x ≠ "__name__" := by decide) (hd : (x == ("__debug__" : Str)) = false := by decide) : DE G X W (.Name x pos) (tC (.ty n)) (kC (.ty n)) := de_ty hg hm hv hn hd
theorem x_cls {x : Str} {n : Nat} (hm : X.mg x = some (.ref (G.cls n))) (hg : Gl X x := by rfl) (hd : (x == ("__debug__" : Str)) = false := by decide) : DE G X W (.Name x pos) (tC (.ref (G.cls n))) (kC (.cls n)) := de_cls hg hm hd
theorem x_op {op : Operator} (ho : OpR X (binaryOp op) r) (hp : Prim2 G r f) (ha : DE G X W a ta fa) (hb : DE G X W b tb fb) : DE G X W (.BinOp a op b pos) (tOp r ta tb) (kOp f fa fb) := de_op ho hp ha hb
theorem x_un {op : UnaryOp} {r : V → Hp → VK → Prop} {f : D → M D} (ho : UnR X (unaryOp op) r) (hp : Prim1 G r f) (ha : DE G X W a ta fa) : DE G X W (.UnaryOp op a pos) (tUn r ta) (kUn f fa) := de_un ho hp ha
theorem x_cmp {op : CmpOp} (ho : OpR X (compareOp op) r) (hp : Prim2 G r f) (ha : DE G X W a ta fa) (hb : DE G X W b tb fb) (hm : behindInMarks op b = false := by first | exact nomark _ | rfl) : DE G X W (.Compare a [op] [b] pos) (tOp r ta tb) (kOp f fa fb) := de_cmp ho hp ha hb hm
theorem x_chain {op op' : CmpOp} (ho : OpR X (compareOp op) r) (ho' : OpR X (compareOp op') r') (hp : Prim2 G r f) (hp' : Prim2 G r' f') (ha : DE G X W a ta fa) (hb : DE G X W b tb fb) (hc : DE G X W c tc fc)
    (hm : lastMarks [op, op'] [b, c] = false := by with_unfolding_all rfl) : DE G X W (.Compare a [op, op'] [b, c] pos) (tChain r r' ta tb tc) (kCh f f' fa fb fc) := de_chain ho ho' hp hp' ha hb hc hm
theorem q_val (h : DE G X W e te fe) (he : ∀ whole, isTrue e X.env whole = (do let v ← whole; standAt e.pos; holding [v] (truthy v)) := by intro _; rfl) : DT G X W e (tB te) (kB fe) := dt_val h he
theorem q_cmp {op : CmpOp} (ho : OpR X (compareOp op) r) (hp : Prim2 G r f) (ha : DE G X W a ta fa) (hb : DE G X W b tb fb) (hm : behindInMarks op b = false := by first | exact nomark _ | rfl) : DT G X W (.Compare a [op] [b] pos) (tTest (tOp r ta tb)) (kB (kOp f fa fb)) := dt_cmp ho hp ha hb hm
theorem w_and1 (ha : DT G X W a A1 f1) : DW G X W (.BoolOp .And [a] pos) A1 f1 := dw_and1 ha
theorem w_or1 (ha : DT G X W a A1 f1) : DW G X W (.BoolOp .Or [a] pos) A1 f1 := dw_or1 ha
theorem w_and (ha : DT G X W a A1 f1) (hb : DW G X W (.BoolOp .And (b :: rest) pos) A2 f2) : DW G X W (.BoolOp .And (a :: b :: rest) pos) (tAnd A1 A2) (kAnd f1 f2) := dw_and ha hb
theorem w_or (ha : DT G X W a A1 f1) (hb : DW G X W (.BoolOp .Or (b :: rest) pos) A2 f2) : DW G X W (.BoolOp .Or (a :: b :: rest) pos) (tOr A1 A2) (kOr f1 f2) := dw_or ha hb
theorem q_not (ha : DT G X W a A1 f1) : DT G X W (.UnaryOp .Not a pos) (tNot A1) (kNot f1) := dt_not ha
theorem x_and (ha : DE G X W a ta fa) (hb : DE G X W (.BoolOp .And (b :: rest) pos) tb fb) : DE G X W (.BoolOp .And (a :: b :: rest) pos) (tAndV ta tb) (kAndV fa fb) := de_and ha hb
theorem x_or (ha : DE G X W a ta fa) (hb : DE G X W (.BoolOp .Or (b :: rest) pos) tb fb) : DE G X W (.BoolOp .Or (a :: b :: rest) pos) (tOrV ta tb) (kOrV fa fb) := de_or ha hb
theorem x_not (ha : DE G X W a ta fa) : DE G X W (.UnaryOp .Not a pos) (tNotV ta) (kNotV fa) := de_not ha
theorem x_ifExp (hc : DT G X W c A1 f1) (ha : DE G X W a ta fa) (hb : DE G X W b tb fb) : DE G X W (.IfExp c a b pos) (tIf A1 ta tb) (kIf f1 fa fb) := de_ifExp hc ha hb
theorem a_nil : DA G X W [] tNil aNil := da_nil
theorem a_cons (ha : DE G X W e te fe) (hr : DA G X W es tA fA) (hs : starEach (e :: es) X.env = (false, eval e X.env) :: starEach es X.env := by rfl) : DA G X W (e :: es) (tCons te tA) (aCons fe fA) := da_cons ha hr hs
theorem l_nil : LenA aNil 0 := len_nil
theorem l_cons {n : Nat} (h : LenA fA n) : LenA (aCons fe fA) (n + 1) := len_cons h
theorem x_tup {x1} (h : DA G X W es tA fA) : DE G X W (.Tuple es x1 pos) (tTup tA) (kCall tupD fA) := de_tup h
theorem x_lst (h : DA G X W es tA fA) : DE G X W (.List es pos) (tLst tA) (kCall lstD fA) := de_lst h
theorem x_ix (hK : X.K = K) (ha : DE G X W a ta fa) (hb : DE G X W b tb fb) (hs : PlainIx b := by exact fun _ _ => rfl) : DE G X W (.Subscript a b pos) (tOp (fun x y H Q => rIxL K x y H Q ∨ rIxT K x y H Q) ta tb) (kOp itemD fa fb) := de_ix hK ha hb hs
theorem x_call {k n : Nat} {g : Addr} {fd : FuncData} {ps : List Str} {m : List D → M D} {x : Str} {p0 : Pos} (F : FnOk X.prog X.w X.K X.mg X.base (L2.CX X.prog X.w) k g fd ps (spM G n m)) (hr : Room k X.A) (tk : Takes X W) (hm : X.mg x = some (.ref g)) (hk : PySem.W.keepIn X.K (.ref g) = true) (hb : L2.Binds X.K fd ps [])
    (ha : DA G X W (e :: es) tA fA) (hl : LenA fA n) (hg : Gl X x := by rfl) (hdb : (x == ("__debug__" : Str)) = false := by decide) (he : starEach (e :: es) X.env = (false, eval e X.env) :: starEach es X.env := by rfl) (hpl : (backTo pos (starEach es X.env)).any (·.1) = false := by rfl) :
    DE G X W (.Call (.Name x p0) (e :: es) [] pos) (tCallS (spM G n m) (WE W) tA) (kCall m fA) := de_call F hr tk hg hm hk hb ha hl hdb he hpl
theorem x_callB {x : Str} {p0 : Pos} {id : String} {rl : List V → Hp → VK → Prop} {g : List D → M D} (hc : CallR X (.builtin id) rl) (hp : PrimL G rl g) (hm : X.mg x = none) (hv : bootBuiltins x = some (.builtin id)) (ha : DA G X W (e :: es) tA fA) (hg : Gl X x := by rfl) (hn : x ≠ "__name__" := by decide) (hdb : (x == ("__debug__" : Str)) = false := by decide)
    (he : starEach (e :: es) X.env = (false, eval e X.env) :: starEach es X.env := by rfl) (hpl : (backTo pos (starEach es X.env)).any (·.1) = false := by rfl) : DE G X W (.Call (.Name x p0) (e :: es) [] pos) (tCB rl tA) (kCall g fA) := de_callB hc hp hg hm hv ha hn hdb he hpl
theorem x_callTy {x : Str} {p0 : Pos} {T : String} {rl : List V → Hp → VK → Prop} {g : List D → M D} (hc : CallR X (.type T) rl) (hp : PrimL G rl g) (hm : X.mg x = none) (hv : bootBuiltins x = some (.type T)) (ha : DA G X W (e :: es) tA fA) (hg : Gl X x := by rfl) (hn : x ≠ "__name__" := by decide) (hdb : (x == ("__debug__" : Str)) = false := by decide)
    (he : starEach (e :: es) X.env = (false, eval e X.env) :: starEach es X.env := by rfl) (hpl : (backTo pos (starEach es X.env)).any (·.1) = false := by rfl) : DE G X W (.Call (.Name x p0) (e :: es) [] pos) (tCB rl tA) (kCall g fA) := de_callTy hc hp hg hm hv ha hn hdb he hpl
theorem x_callG {x : Str} {p0 : Pos} {id : String} {rl : List V → Hp → VK → Prop} {g : List D → M D} (hc : CallR X (.builtin id) rl) (hp : PrimL G rl g) (hm : X.mg x = some (.builtin id)) (ha : DA G X W (e :: es) tA fA) (hg : Gl X x := by rfl) (hdb : (x == ("__debug__" : Str)) = false := by decide)
    (he : starEach (e :: es) X.env = (false, eval e X.env) :: starEach es X.env := by rfl) (hpl : (backTo pos (starEach es X.env)).any (·.1) = false := by rfl) : DE G X W (.Call (.Name x p0) (e :: es) [] pos) (tCB rl tA) (kCall g fA) := de_callBfun hc hp hg hm ha hdb he hpl
theorem i_list {tg : Expr} (hK : X.K = K) (hl : DE G X W e te fe) : DI G X W tg e (iList K te) (iL fe) := di_list hK hl
theorem i_tup {tg : Expr} (hK : X.K = K) (hl : DE G X W e te fe) : DI G X W tg e (iTup K te) (iT fe) := di_tup hK hl
theorem i_range1 {tg : Expr} {p0 : Pos} (hm : X.mg "range" = none) (ha : DA G X W [a] tA fA) (hg : Gl X "range" := by rfl) (hs : starEach [a] X.env = [(false, eval a X.env)] := by rfl) : DI G X W tg (.Call (.Name "range" p0) [a] [] pos) (iRng1 tA) (iR1 fA) := di_range1 hg hm ha hs
theorem i_range2 {tg : Expr} {p0 : Pos} (hm : X.mg "range" = none) (ha : DA G X W [a, b] tA fA) (hg : Gl X "range" := by rfl) (hs : starEach [a, b] X.env = [(false, eval a X.env), (false, eval b X.env)] := by rfl) (hs2 : starEach [b] X.env = [(false, eval b X.env)] := by rfl) : DI G X W tg (.Call (.Name "range" p0) [a, b] [] pos) (iRng2 tA) (iR2 fA) := di_range2 hg hm ha hs hs2
theorem x_lc {tg iter elt : Expr} {ifs : List Expr} {scope : Scope} (own : List (Str × Nat)) {wi : TI} {g : TG} {gm : D → Loc → Option Loc} {fi : Loc → M (List D)} {tt : TT} {mt : Loc → M Bool} (hc : X.calm = true) (hN : X.N.Nodup) (hi : DI G X W tg iter wi fi) (ok : BlkOk X.N X.env.scope scope own)
    (hg : ∀ (s : Shared) (H : Hp) (C : Addr) (cl : List (Str × Addr)) (fp : List Addr), DG G (X.blk s H scope (compEnvC scope cl C X.env) fp) (own.map (·.2)) tg g gm) (ht : ∀ (s : Shared) (H : Hp) (C : Addr) (cl : List (Str × Addr)) (fp : List Addr), PTs (X.blk s H scope (compEnvC scope cl C X.env) fp) ifs tt) (htr : RunG G W0 RelB tt mt)
    (he : ∀ (s : Shared) (H : Hp) (C : Addr) (cl : List (Str × Addr)) (fp : List Addr), DE G (X.blk s H scope (compEnvC scope cl C X.env) fp) W0 elt te fe) (hs : ∀ x, foldedSetIterable iter X.env x = pure x := by intro _; rfl) :
    DE G X W (.ListComp elt [⟨tg, iter, ifs, 0⟩] scope pos) (tLc wi g tt te (own.map (·.2))) (kLc fi gm mt fe (own.map (·.2))) := de_lc hc hN hi ok hg ht htr he hs
theorem z_setLc {i : Nat} {y : Str} {py spos : Pos} {tg iter elt : Expr} {ifs : List Expr} {scope : Scope} (own : List (Str × Nat)) {wi : TI} {g : TG} {gm : D → Loc → Option Loc} {fi : Loc → M (List D)} {tt : TT} {mt : Loc → M Bool} (hc : X.calm = true) (hN : X.N.Nodup) (hy : X.N[i]? = some y) (hyl : X.env.scope.names.lookup y = some .local)
    (hsw : swapsWith (.ListComp elt [⟨tg, iter, ifs, 0⟩] scope pos) (some (.Name y py)) spos.line X.env = pure true) (hi : DI G X W tg iter wi fi) (ok : BlkOk X.N X.env.scope scope own)
    (hg : ∀ (s : Shared) (H : Hp) (C : Addr) (cl : List (Str × Addr)) (fp : List Addr), DG G (X.blk s H scope (compEnvC scope cl C X.env) fp) (own.map (·.2)) tg g gm) (ht : ∀ (s : Shared) (H : Hp) (C : Addr) (cl : List (Str × Addr)) (fp : List Addr), PTs (X.blk s H scope (compEnvC scope cl C X.env) fp) ifs tt) (htr : RunG G W0 RelB tt mt)
    (he : ∀ (s : Shared) (H : Hp) (C : Addr) (cl : List (Str × Addr)) (fp : List Addr), DE G (X.blk s H scope (compEnvC scope cl C X.env) fp) W0 elt te fe) (hs : ∀ x, foldedSetIterable iter X.env x = pure x := by intro _; rfl) :
    DS G X W (.Assign [.Name y py] (.ListComp elt [⟨tg, iter, ifs, 0⟩] scope pos) spos) (tAsg (tLc wi g tt te (own.map (·.2))) (gName i)) (sasg (kLc fi gm mt fe (own.map (·.2))) (gnm i)) := ds_setLc hc hN hy hyl hsw hi ok hg ht htr he hs
theorem z_nil : DSs G X W [] tNext zNx := dss_nil
theorem z_expr (he : DE G X W e te fe) (hs : swapsWith e none pos.line X.env = pure false := by rfl) : DS G X W (.Expr e pos) (tDrop te) (zEx fe) := ds_expr he hs
theorem z_ret (he : DE G X W e te fe) : DS G X W (.Return (some e) pos) (tRet te) (zRet fe) := ds_ret he
theorem z_retN : DS G X W (.Return none pos) tRetN zRetN := ds_retN
theorem z_pass : DS G X W (.Pass pos) tNext zNx := ds_pass
theorem z_break : DS G X W (.Break pos) tBreak zBk := ds_break
theorem z_continue : DS G X W (.Continue pos) tCont zCt := ds_continue
theorem z_if {x y : List Stmt} (hc : DT G X W c A1 f1) (ha : DSs G X W x t m) (hb : DSs G X W y u m') : DS G X W (.If c x y pos) (tIfS A1 t u) (zIf f1 m m') := ds_if hc ha hb
theorem z_raise0 {cn : Nat} {x : Str} {fI : Addr} {stI : Stmt} {qual : Str} {fd : FuncData} {p0 pos' ppos : Pos} (hc : X.calm = true) (tk : Takes X W) (E : Err0 X.K X.mg x (G.cls cn) fI stI qual fd) (S : FnScope ["self"] ["self"] (defScope stI)) (hb : defBody stI = [.Pass ppos]) (hr : Room 2 X.A) (hg : Gl X x := by rfl) (hdb : (x == ("__debug__" : Str)) = false := by decide) :
    DS G X W (.Raise (some (.Call (.Name x p0) [] [] pos')) none pos) (fun _ σ H => ∀ H', (∀ b o, H b = some o → H' b = some o) → W (.ref (G.cls cn)) none σ H') (zRaise cn) :=
  ds_raise0 hc tk (pmk_no E.ox E.fi E.ti (ok_noinit E.fn S hb) hr E.bd hg E.m hdb)
theorem g_tup {vs : List Nat} {n k : Nat} {gs : TGs} {g2 : List D → Loc → Option Loc} (hK : X.K = K) (hc : X.calm = true) (h : DGs G X vs es gs g2) (hn : (assignEach es X.env).length = n := by rfl) (hst : (assignEach es X.env).findIdx? (·.1) = none := by rfl) : DG G X vs (.Tuple es k pos) (gTup K n gs) (gtm n g2) := by
  subst hK; exact dg_tup h.run (pg_tup hc h.pg hn hst)
theorem g_lst {vs : List Nat} {n k : Nat} {gs : TGs} {g2 : List D → Loc → Option Loc} (hK : X.K = K) (hc : X.calm = true) (h : DGs G X vs es gs g2) (hn : (assignEach es X.env).length = n := by rfl) (hst : (assignEach es X.env).findIdx? (·.1) = none := by rfl) : DG G X vs (.Tuple es k pos) (gLst K n gs) (glm n g2) := by
  subst hK; exact dg_lst h.run (pg_lst hc h.pg hn hst)
def gnl : List D → Loc → Option Loc := fun ds ρ => match ds with
  | [] => some ρ
  | _ => none
theorem g_nil {vs : List Nat} : DGs G X vs [] gNil gnl := dgs_nil
theorem g_cons {vs : List Nat} {g : TG} {gs : TGs} {g1 : D → Loc → Option Loc} {g2 : List D → Loc → Option Loc} (h1 : DG G X vs e g g1) (h2 : DGs G X vs es gs g2) (hs : (assignEach (e :: es) X.env).map (·.2) = assign e X.env :: (assignEach es X.env).map (·.2) := by rfl) : DGs G X vs (e :: es) (gCons g gs) (gcn g1 g2) := dgs_cons h1 h2 (pgs_cons h1.pg h2.pg hs)
end
end Tw

set_option Elab.async false
set_option linter.all false
set_option maxRecDepth 100000
set_option maxHeartbeats 4000000
set_option autoImplicit false
namespace Tw
open PySem L2
theorem mbind_ret {α β : Type} (a : α) (f : α → M β) : mbind (mret a) f = f a := rfl
theorem mbind_bad {α β : Type} (f : α → M β) : mbind mbad f = mbad := rfl
theorem sof_ret {α : Type} (a : α) (s : Pen) (ρ : Loc) (k : α → Pen → OutS) : sof (mret a s) ρ k = k a s := rfl
theorem mbind_ap {α β : Type} (m : M α) (f : α → M β) (s : Pen) : mbind m f s = obind (m s) f := rfl
theorem obind_ok {α β : Type} (a : α) (s : Pen) (f : α → M β) : obind (.ok a s) f = f a s := rfl
theorem sof_ok {α : Type} (a : α) (s : Pen) (ρ : Loc) (k : α → Pen → OutS) : sof (.ok a s) ρ k = k a s := rfl
theorem mret_ap {α : Type} (a : α) (s : Pen) : mret a s = .ok a s := rfl
theorem sseq_nx {m m' : MS} {ρ ρ' : Loc} {s s' : Pen} (h : m ρ s = .nx ρ' s') : sseq m m' ρ s = m' ρ' s' := by unfold sseq; rw [h]
theorem sseq_ret {m m' : MS} {ρ : Loc} {d : D} {s s' : Pen} (h : m ρ s = .ret d s') : sseq m m' ρ s = .ret d s' := by unfold sseq; rw [h]
theorem mdef_ret {n : Nat} {b : MS} {ds : List D} {d : D} {s s' : Pen} (h : b (startL n ds) s = .ret d s') : mdef n b ds s = .ok d s' := by unfold mdef; rw [h]
theorem pow_eq (i j : Int) (h : (decide (0 ≤ j ∧ j ≤ 1000000 ∧ i.natAbs < 2 ^ 64)) = true) : powI (.int i) (.int j) = mret (.int (i ^ j.toNat)) := by
  show (if (decide (0 ≤ j ∧ j ≤ 1000000 ∧ i.natAbs < 2 ^ 64)) = true then _ else _) = _
  rw [if_pos h]
theorem p9 : powI (.int 10) (.int 9) = mret (.int 1000000000) := rfl
theorem p15 : powI (.int 10) (.int 15) = mret (.int 1000000000000000) := rfl
theorem p18 : powI (.int 10) (.int 18) = mret (.int 1000000000000000000) := rfl
theorem p20 : powI (.int 10) (.int 20) = mret (.int 100000000000000000000) := rfl
theorem p30 : powI (.int 10) (.int 30) = mret (.int 1000000000000000000000000000000) := rfl
theorem mul_eq {i j : Int} (h : mulOk i j = true) : mulI (.int i) (.int j) = mret (.int (i * j)) := by
  show (if mulOk i j = true then mret (D.int (i * j)) else mbad) = _
  rw [if_pos h]
theorem mulOk_r {i j : Int} (h : j.natAbs < 2 ^ 64) : mulOk i j = true := by unfold mulOk; rw [decide_eq_true h]; rfl
theorem mulOk_l {i j : Int} (h : i.natAbs < 2 ^ 64) : mulOk i j = true := by
  unfold mulOk
  rw [decide_eq_true h]
  cases decide (j.natAbs < 2 ^ 64) <;> rfl
theorem log2_le {n m : Nat} (h : n ≤ m) : n.log2 ≤ m.log2 := by
  by_cases h0 : n = 0
  · subst h0; simp
  · exact (Nat.le_log2 (by omega)).mpr (Nat.le_trans (Nat.log2_self_le h0) h)
/-- below 2 ^ n -/
def Sm (n : Nat) (x : Int) : Prop := x.natAbs < 2 ^ n
instance {n : Nat} {x : Int} : Decidable (Sm n x) := inferInstanceAs (Decidable (x.natAbs < 2 ^ n))
theorem Sm.log {n : Nat} {x : Int} (h : Sm n x) (hn : 0 < n) : x.natAbs.log2 < n := PySem.Flt.log2_lt_of hn h
theorem mulOk_s {i j : Int} {n m : Nat} (hi : Sm n i) (hj : Sm m j) (hn : 0 < n) (hm : 0 < m) (h : n + m ≤ 1000000) : mulOk i j = true := by
  have h1 := hi.log hn
  have h2 := hj.log hm
  unfold mulOk
  rw [decide_eq_true (show i.natAbs.log2 + j.natAbs.log2 < 1000000 by omega)]
  cases decide (j.natAbs < 2 ^ 64) <;> cases decide (i.natAbs < 2 ^ 64) <;> rfl
theorem Sm.mul {i j : Int} {n m : Nat} (hi : Sm n i) (hj : Sm m j) : Sm (n + m) (i * j) := wide_lt hi hj
theorem Sm.add {i j : Int} {n : Nat} (hi : Sm n i) (hj : Sm n j) : Sm (n + 1) (i + j) := by
  unfold Sm at *
  have : (2 : Nat) ^ (n + 1) = 2 ^ n + 2 ^ n := by rw [Nat.pow_succ]; omega
  omega
theorem Sm.sub {i j : Int} {n : Nat} (hi : Sm n i) (hj : Sm n j) : Sm (n + 1) (i - j) := by
  unfold Sm at *
  have : (2 : Nat) ^ (n + 1) = 2 ^ n + 2 ^ n := by rw [Nat.pow_succ]; omega
  omega
theorem Sm.mono {i : Int} {n m : Nat} (hi : Sm n i) (h : n ≤ m) : Sm m i := Nat.lt_of_lt_of_le hi (Nat.pow_le_pow_right (by decide) h)
/-- isinstance by a built-in type -/
theorem isi_of {x : D} {T a : String} (h : tag x = some a) (hk : kitB a T = some (subT a T)) : isiB [x, .ty T] = mret (.bl (subT a T)) := by
  show (match tag x with | some a => if decide (kitB a T = some (subT a T)) = true then mret (D.bl (subT a T)) else mbad | none => mbad) = _
  rw [h]
  show (if decide (kitB a T = some (subT a T)) = true then mret (D.bl (subT a T)) else mbad) = _
  rw [if_pos (decide_eq_true hk)]
theorem ii_int (i : Int) : isiB [.int i, .ty "int"] = mret (.bl true) := isi_of (a := "int") rfl (by decide +kernel)
theorem ii_bool (i : Int) : isiB [.int i, .ty "bool"] = mret (.bl false) := isi_of (a := "int") rfl (by decide +kernel)
theorem ib_int (i : Bool) : isiB [.bl i, .ty "int"] = mret (.bl true) := isi_of (a := "bool") rfl (by decide +kernel)
theorem ib_bool (i : Bool) : isiB [.bl i, .ty "bool"] = mret (.bl true) := isi_of (a := "bool") rfl (by decide +kernel)
theorem in_int : isiB [.non, .ty "int"] = mret (.bl false) := isi_of (a := "NoneType") rfl (by decide +kernel)
theorem is_int (x : Str) : isiB [.str x, .ty "int"] = mret (.bl false) := isi_of (a := "str") rfl (by decide +kernel)
theorem it_int (xs : List D) : isiB [.tup xs, .ty "int"] = mret (.bl false) := isi_of (a := "tuple") rfl (by decide +kernel)
theorem il_int (xs : List D) : isiB [.lst xs, .ty "int"] = mret (.bl false) := isi_of (a := "list") rfl (by decide +kernel)
theorem it_tuple (xs : List D) : isiB [.tup xs, .ty "tuple"] = mret (.bl true) := isi_of (a := "tuple") rfl (by decide +kernel)
theorem atI_int {ns : List Int} {i : Nat} (h : i < ns.length) : ∃ n, atI (ns.map D.int) (i : Int) = some (.int n) := by
  refine ⟨ns[i], atI_nat ?_⟩
  rw [List.getElem?_map, List.getElem?_eq_some_iff.mpr ⟨h, rfl⟩]
  rfl
theorem fmd_eq {i j : Int} (h : j ≠ 0) : fmdI (.int i) (.int j) = mret (.int (i.fmod j)) := by
  show (if decide (j ≠ 0) = true then mret (D.int (i.fmod j)) else mbad) = _
  rw [if_pos (decide_eq_true h)]
theorem fdv_eq {i j : Int} (h : j ≠ 0) (h9 : j.natAbs.log2 < 9000) : fdvI (.int i) (.int j) = mret (.int (i.fdiv j)) := by
  show (if decide (j ≠ 0 ∧ j.natAbs.log2 < 9000) = true then mret (D.int (i.fdiv j)) else mbad) = _
  rw [if_pos (decide_eq_true ⟨h, h9⟩)]
theorem fdv_64 {i : Int} : fdvI (.int i) (.int 64) = mret (.int (i.fdiv 64)) := fdv_eq (by decide) (by decide)
end Tw

set_option Elab.async false
set_option linter.all false
set_option maxRecDepth 100000
set_option maxHeartbeats 4000000
set_option autoImplicit false
namespace Tw
open PySem L2
/-! ### ratios -/
/-- a ratio as the program has it -/
def rd (q : Rat) : D := .tup [.int q.num, .int (q.den : Nat)]
theorem cross {a b : Int} (hb : b ≠ 0) : (Rat.divInt a b).num * b = a * ((Rat.divInt a b).den : Nat) := by
  have h := Rat.num_divInt_den (Rat.divInt a b)
  have hd : (((Rat.divInt a b).den : Nat) : Int) ≠ 0 := by have := (Rat.divInt a b).den_nz; omega
  exact (Rat.divInt_eq_divInt_iff hd hb).mp h
theorem rat_add (p q : Rat) : p + q = Rat.divInt (p.num * (q.den : Nat) + q.num * (p.den : Nat)) ((p.den : Nat) * (q.den : Nat)) := by
  have h1 : ((p.den : Nat) : Int) ≠ 0 := by have := p.den_nz; omega
  have h2 : ((q.den : Nat) : Int) ≠ 0 := by have := q.den_nz; omega
  rw [← Rat.divInt_add_divInt _ _ h1 h2, Rat.num_divInt_den, Rat.num_divInt_den]
theorem rat_mul (p q : Rat) : p * q = Rat.divInt (p.num * q.num) ((p.den : Nat) * (q.den : Nat)) := by
  have h1 : ((p.den : Nat) : Int) ≠ 0 := by have := p.den_nz; omega
  have h2 : ((q.den : Nat) : Int) ≠ 0 := by have := q.den_nz; omega
  rw [← Rat.divInt_mul_divInt, Rat.num_divInt_den, Rat.num_divInt_den]
theorem dens (p q : Rat) : ((p.den : Nat) : Int) * ((q.den : Nat) : Int) ≠ 0 := by
  have h1 : ((p.den : Nat) : Int) ≠ 0 := by have := p.den_nz; omega
  have h2 : ((q.den : Nat) : Int) ≠ 0 := by have := q.den_nz; omega
  exact Int.mul_ne_zero h1 h2
/-- both numbers of a ratio are below 2 ^ n -/
def Rs (n : Nat) (q : Rat) : Prop := Sm n q.num ∧ Sm n ((q.den : Nat) : Int)
theorem rs_of {a b : Int} {n : Nat} (ha : Sm n a) (hb : Sm n b) (h0 : b ≠ 0) : Rs n (Rat.divInt a b) := by
  unfold Rs Sm at *
  have hg : 0 < b.gcd a := Int.gcd_pos_of_ne_zero_left a h0
  rw [Rat.num_divInt, Rat.den_divInt, if_neg h0]
  constructor
  · refine Nat.lt_of_le_of_lt ?_ ha
    have e : (b.sign * a).natAbs = a.natAbs := by
      rw [Int.natAbs_mul, Int.natAbs_sign_of_ne_zero h0, Nat.one_mul]
    refine Nat.le_trans (Int.natAbs_ediv_le_natAbs _ _) ?_
    rw [e]
    exact Nat.le_refl _
  · refine Nat.lt_of_le_of_lt ?_ hb
    show ((b.natAbs / b.gcd a : Nat) : Int).natAbs ≤ b.natAbs
    rw [Int.natAbs_natCast]
    exact Nat.div_le_self _ _
theorem sh2 (a b : Int) : SeqAt.shaped (.tuple [.int a, .int b]) = true := rfl
theorem eq_rd (p : Rat) : eqA (rd p) (rd p) = mret (.bl true) := by
  show (if (SeqAt.shaped (.tuple [.int p.num, .int (p.den : Nat)]) && SeqAt.shaped (.tuple [.int p.num, .int (p.den : Nat)])) = true then mret (D.bl (PyData.eqv (.tuple [.int p.num, .int (p.den : Nat)]) (.tuple [.int p.num, .int (p.den : Nat)]))) else mbad) = _
  rw [if_pos (by rw [sh2]; rfl)]
  rw [show PyData.eqv (.tuple [.int p.num, .int (p.den : Nat)]) (.tuple [.int p.num, .int (p.den : Nat)]) = true by simp [PyData.eqv, PyData.eqvAll]]
theorem ne_rd (p : Rat) : neA (rd p) (rd p) = mret (.bl false) := by
  show (if (SeqAt.shaped (.tuple [.int p.num, .int (p.den : Nat)]) && SeqAt.shaped (.tuple [.int p.num, .int (p.den : Nat)])) = true then mret (D.bl (!PyData.eqv (.tuple [.int p.num, .int (p.den : Nat)]) (.tuple [.int p.num, .int (p.den : Nat)]))) else mbad) = _
  rw [if_pos (by rw [sh2]; rfl)]
  rw [show PyData.eqv (.tuple [.int p.num, .int (p.den : Nat)]) (.tuple [.int p.num, .int (p.den : Nat)]) = true by simp [PyData.eqv, PyData.eqvAll]]
  rfl
/-- the two numbers of a lowered fraction, as the program makes them -/
theorem lowered (a b : Int) (hb : b ≠ 0) (g : Int) (eg : g = if b < 0 then -((Nat.gcd a.natAbs b.natAbs : Nat) : Int) else ((Nat.gcd a.natAbs b.natAbs : Nat) : Int)) : (D.tup [.int (a.fdiv g), .int (b.fdiv g)] : D) = rd (Rat.divInt a b) := by
  have hg : 0 < Nat.gcd a.natAbs b.natAbs := Nat.gcd_pos_of_pos_right _ (by omega)
  have hi : ((Nat.gcd a.natAbs b.natAbs : Nat) : Int) ≠ 0 := by omega
  have e1 : ((Nat.gcd a.natAbs b.natAbs : Nat) : Int) ∣ a := Int.ofNat_dvd_left.mpr (Nat.gcd_dvd_left ..)
  have e2 : ((Nat.gcd a.natAbs b.natAbs : Nat) : Int) ∣ b := Int.ofNat_dvd_left.mpr (Nat.gcd_dvd_right ..)
  have ec : (b.gcd a : Nat) = Nat.gcd a.natAbs b.natAbs := by rw [Int.gcd, Nat.gcd_comm]
  unfold rd
  rw [Rat.num_divInt, Rat.den_divInt, if_neg hb, ec]
  obtain ⟨x, hx⟩ := e1
  obtain ⟨y, hy⟩ := e2
  generalize hG : Nat.gcd a.natAbs b.natAbs = G0 at *
  by_cases hneg : b < 0
  · rw [if_pos hneg] at eg
    subst eg
    have hs : b.sign = -1 := Int.sign_eq_neg_one_of_neg hneg
    have ha1 : a.fdiv (-(G0 : Int)) = -x := by
      rw [Int.fdiv_eq_ediv_of_dvd (Int.neg_dvd.mpr ⟨x, hx⟩), Int.ediv_neg, hx, Int.mul_ediv_cancel_left _ hi]
    have hb1 : b.fdiv (-(G0 : Int)) = -y := by
      rw [Int.fdiv_eq_ediv_of_dvd (Int.neg_dvd.mpr ⟨y, hy⟩), Int.ediv_neg, hy, Int.mul_ediv_cancel_left _ hi]
    have ha2 : b.sign * a / (G0 : Int) = -x := by
      rw [hs, hx, Int.neg_one_mul, ← Int.mul_neg, Int.mul_ediv_cancel_left _ hi]
    have hyn : y < 0 := by
      rcases Int.lt_trichotomy y 0 with h | h | h
      · exact h
      · rw [h, Int.mul_zero] at hy; omega
      · have := Int.mul_pos (show (0 : Int) < (G0 : Int) by omega) h
        omega
    have hb2 : ((b.natAbs / G0 : Nat) : Int) = -y := by
      have e : b.natAbs = G0 * (-y).toNat := by
        have : (b.natAbs : Int) = (G0 : Int) * ((-y).toNat : Int) := by
          rw [Int.toNat_of_nonneg (by omega), Int.mul_neg, ← hy]; omega
        exact_mod_cast this
      rw [e, Nat.mul_div_cancel_left _ hg]
      exact Int.toNat_of_nonneg (by omega)
    rw [ha1, hb1, ha2, hb2]
  · rw [if_neg hneg] at eg
    subst eg
    have hs : b.sign = 1 := Int.sign_eq_one_of_pos (by omega)
    have ha1 : a.fdiv (G0 : Int) = x := by
      rw [Int.fdiv_eq_ediv_of_dvd ⟨x, hx⟩, hx, Int.mul_ediv_cancel_left _ hi]
    have hb1 : b.fdiv (G0 : Int) = y := by
      rw [Int.fdiv_eq_ediv_of_dvd ⟨y, hy⟩, hy, Int.mul_ediv_cancel_left _ hi]
    have ha2 : b.sign * a / (G0 : Int) = x := by
      rw [hs, Int.one_mul, hx, Int.mul_ediv_cancel_left _ hi]
    have hyp : 0 < y := by
      rcases Int.lt_trichotomy y 0 with h | h | h
      · have := Int.mul_neg_of_pos_of_neg (show (0 : Int) < (G0 : Int) by omega) h
        omega
      · rw [h, Int.mul_zero] at hy; omega
      · exact h
    have hb2 : ((b.natAbs / G0 : Nat) : Int) = y := by
      have e : b.natAbs = G0 * y.toNat := by
        have : (b.natAbs : Int) = (G0 : Int) * (y.toNat : Int) := by
          rw [Int.toNat_of_nonneg (by omega), ← hy]; omega
        exact_mod_cast this
      rw [e, Nat.mul_div_cancel_left _ hg]
      exact Int.toNat_of_nonneg (by omega)
    rw [ha1, hb1, ha2, hb2]
/-- the signs -/
theorem signs {p q : Rat} {a0 a1 b0 b1 : Int} (ha : a1 ≠ 0) (hb : b1 ≠ 0) (hp : p = Rat.divInt a0 a1) (hq : q = Rat.divInt b0 b1) :
    Int.sign (p.num * (q.den : Nat) - q.num * (p.den : Nat)) = Int.sign (a0 * b1 - b0 * a1) * Int.sign (a1 * b1) := by
  have cp : p.num * a1 = a0 * (p.den : Nat) := by rw [hp]; exact cross ha
  have cq : q.num * b1 = b0 * (q.den : Nat) := by rw [hq]; exact cross hb
  have dp : (0 : Int) < (p.den : Nat) := by have := p.den_nz; omega
  have dq : (0 : Int) < (q.den : Nat) := by have := q.den_nz; omega
  generalize ((p.den : Nat) : Int) = P at *
  generalize ((q.den : Nat) : Int) = Q at *
  generalize p.num = x at *
  generalize q.num = y at *
  have key : (x * Q - y * P) * (a1 * b1) = (a0 * b1 - b0 * a1) * (P * Q) := by grind
  have hz : a1 * b1 ≠ 0 := Int.mul_ne_zero ha hb
  have s1 : Int.sign (x * Q - y * P) * Int.sign (a1 * b1) = Int.sign (a0 * b1 - b0 * a1) := by
    rw [← Int.sign_mul, key, Int.sign_mul, Int.sign_eq_one_of_pos (Int.mul_pos dp dq), Int.mul_one]
  rw [← s1, Int.mul_assoc]
  have s2 : Int.sign (a1 * b1) * Int.sign (a1 * b1) = 1 := by
    rcases Int.lt_or_gt_of_ne hz with h | h
    · rw [Int.sign_eq_neg_one_of_neg h]; rfl
    · rw [Int.sign_eq_one_of_pos h]; rfl
  rw [s2, Int.mul_one]
/-- a loop whose turns all go on and leave the pen -/
theorem sloop_all {gm : D → Loc → Option Loc} {mb : MS} {s : Pen} (I : Loc → Prop) : ∀ (ds : List D) (ρ : Loc), I ρ → (∀ d ∈ ds, ∀ ρ, I ρ → ∃ ρ1 ρ2, gm d ρ = some ρ1 ∧ mb ρ1 s = .nx ρ2 s ∧ I ρ2) → ∃ ρ', sloop gm mb ds ρ s = .nx ρ' s ∧ I ρ'
  | [], ρ, h, _ => ⟨ρ, rfl, h⟩
  | d :: ds, ρ, h, ht => by
    obtain ⟨ρ1, ρ2, e1, e2, h2⟩ := ht d (List.mem_cons_self ..) ρ h
    obtain ⟨ρ', e3, h3⟩ := sloop_all I ds ρ2 h2 fun x hx => ht x (List.mem_cons_of_mem _ hx)
    refine ⟨ρ', ?_, h3⟩
    unfold sloop
    rw [e1]
    dsimp only
    rw [e2]
    exact e3
end Tw

set_option Elab.async false
set_option linter.all false
set_option maxRecDepth 100000
set_option maxHeartbeats 4000000
set_option autoImplicit false
namespace Tw
open PySem L2 PySem.Spec PyProof.Rows
section
variable {K : PySem.W.Frag} {G : Gt} {W : WX} {X : Cx}
variable {a b c e o : Expr} {es : List Expr} {ta te to tv : TE} {fa fe fo fv : Loc → M D} {pos pos' apos : Pos} {tA : TA} {fA : Loc → M (List D)} {f m : Str}

/-! ### e.f -/
def fldOf (ns : List Str) (xs : List D) (f : Str) : Option D := (ns.zip xs).lookup f
theorem fld_rep {p : Fm} {H : Hp} : ∀ {ns : List Str} {xs : List D} {vs : List V} {f : Str} {d : D}, RepL G p H xs vs → fldOf ns xs f = some d → ∃ v, (ns.zip vs).lookup f = some v ∧ Rep G p H d v
  | [], xs, vs, f, d, _, h => by simp [fldOf] at h
  | n :: ns, [], vs, f, d, _, h => by simp [fldOf] at h
  | n :: ns, x :: xs, vs, f, d, q, h => by
    obtain ⟨v, r, rfl, q1, q2⟩ := q
    unfold fldOf at h
    simp only [List.zip_cons_cons, List.lookup] at h ⊢
    cases hb : (f == n) with
    | true => rw [hb] at h; cases h; exact ⟨v, rfl, q1⟩
    | false => rw [hb] at h; exact fld_rep (ns := ns) q2 h
/-- the class numbers that have the attribute in their instances -/
def FldOk (G : Gt) (K : PySem.W.Frag) (f : Str) (cf : Nat → Bool) : Prop := ∀ n, cf n = true → L2.Cls K (G.cls n) ∧ L2.NoAttr K (G.cls n) f
def fldD (cf : Nat → Bool) (f : Str) : D → M D := fun d s => match d with
  | .ins n ns xs => if cf n = true then (match fldOf ns xs f with
    | some x => .ok x s
    | none => .bad) else .bad
  | .self => if cf s.ocls = true then (match s.obj.lookup f with
    | some x => .ok x s
    | none => .bad) else .bad
  | _ => .bad
def kFld (cf : Nat → Bool) (f : Str) (fa : Loc → M D) : Loc → M D := fun ρ => mbind (fa ρ) (fldD cf f)
theorem zip_map {α β : Type} : ∀ l : List (α × β), (l.map (·.1)).zip (l.map (·.2)) = l
  | [] => rfl
  | (x, y) :: l => by simp [zip_map l]
theorem x_fld {cf : Nat → Bool} (hc : FldOk G X.K f cf) (ha : DE G X W a ta fa) (hb : attributeBase a f X.env (eval a X.env) = eval a X.env := by rfl) : DE G X W (.Attribute a f pos) (tFld X.K ta f) (kFld cf f fa) := by
  refine ⟨pe_fld ha.pe hb, fun p σ H ρ s Q e pk fin => ?_⟩
  refine ha.run p σ H ρ s _ e pk (fin.step fun d s1 v H1 k1 pk1 rd fin1 => ?_)
  unfold fldD at fin1
  cases d <;> first
    | exact False.elim fin1
    | skip
  · rename_i n ns xs
    dsimp only at fin1
    by_cases hn : cf n = true
    · rw [if_pos hn] at fin1
      cases h : fldOf ns xs f with
      | none => rw [h] at fin1; exact False.elim fin1
      | some x =>
        rw [h] at fin1
        obtain ⟨a, dx, vs, rfl, h0, h1, hl, rs⟩ := rd
        obtain ⟨v, h2, h3⟩ := fld_rep (ns := ns) rs h
        exact ⟨a, _, dx, _, v, rfl, h1, (hc n hn).1, (hc n hn).2, h2, fin1 v H1 Keep.refl pk1 h3⟩
    · rw [if_neg hn] at fin1; exact False.elim fin1
  · dsimp only at fin1
    by_cases hn : cf s1.ocls = true
    · rw [if_pos hn] at fin1
      cases h : s1.obj.lookup f with
      | none => rw [h] at fin1; exact False.elim fin1
      | some x =>
        rw [h] at fin1
        obtain ⟨a, c, dx, ea, rfl⟩ := rd
        obtain ⟨vs, h1, ⟨hl, hcl, rfl⟩, rs⟩ := pk1.2.1 a c dx ea
        have h' : fldOf (s1.obj.map (·.1)) (s1.obj.map (·.2)) f = some x := by unfold fldOf; rw [zip_map]; exact h
        obtain ⟨v, h2, h3⟩ := fld_rep (ns := s1.obj.map (·.1)) rs h'
        have hx : clear x = true := by
          have : ∀ (l : List (Str × D)), clearL (l.map (·.2)) = true → l.lookup f = some x → clear x = true := by
            intro l
            induction l with
            | nil => intro _ z; cases z
            | cons y l ih =>
              intro z1 z2
              have z1 : (clear y.2 && clearL (l.map (·.2))) = true := z1
              rw [Bool.and_eq_true] at z1
              simp only [List.lookup] at z2
              split at z2
              · cases z2; exact z1.1
              · exact ih z1.2 z2
          exact this _ hcl h
        exact ⟨a, _, dx, _, v, rfl, h1, (hc _ hn).1, (hc _ hn).2, h2, fin1 v H1 Keep.refl pk1 (rep_move (G := G.bare) (G' := G) rfl rfl (fun _ _ _ z => z) x v hx h3)⟩
    · rw [if_neg hn] at fin1; exact False.elim fin1

/-! ### self.f = e within __init__ -/
def objPut (n : Nat) (f : Str) (fo fv : Loc → M D) : MS := fun ρ s => sof (fv ρ s) ρ fun d s1 => sof (fo ρ s1) ρ fun x s2 => match x with
  | .self => if (s2.ocls == n && (s2.obj.lookup f).isNone && clear d && decide (s2.obj.length < 1000)) = true then .nx ρ { s2 with obj := s2.obj ++ [(f, d)] } else .bad
  | _ => .bad
theorem putF_new {f : Str} {y : V} : ∀ {fs : List (Str × V)}, fs.lookup f = none → putF f y fs = fs ++ [(f, y)]
  | [], _ => rfl
  | (g, x) :: r, h => by
    simp only [List.lookup] at h
    split at h
    · cases h
    · rename_i hb
      have hne : ¬ g = f := fun z => by subst z; simp at hb
      unfold putF
      rw [if_neg hne, putF_new h]
      rfl
theorem lookup_zip_none {f : Str} : ∀ {l : List (Str × D)} {vs : List V}, l.lookup f = none → ((l.map (·.1)).zip vs).lookup f = none
  | [], vs, _ => by simp
  | (g, x) :: r, [], _ => by simp
  | (g, x) :: r, v :: vs, h => by
    simp only [List.lookup] at h
    split at h
    · cases h
    · rename_i hb
      simp only [List.map_cons, List.zip_cons_cons, List.lookup, hb]
      exact lookup_zip_none h
theorem clearL_app : ∀ {xs ys : List D}, clearL (xs ++ ys) = (clearL xs && clearL ys)
  | [], ys => by simp [clearL]
  | x :: xs, ys => by simp [clearL, clearL_app (xs := xs), Bool.and_assoc]
theorem ds_objPut (n : Nat) (hc : L2.Cls X.K (G.cls n)) (hna : L2.NoAttr X.K (G.cls n) f) (ho : DE G X W o to fo) (hv : DE G X W e tv fv) (hs : swapsWith e (some (.Attribute o f pos')) pos.line X.env = pure false := by rfl) :
    DS G X W (.Assign [.Attribute o f pos'] e pos) (sFld X.K to tv f) (objPut n f fo fv) := by
  refine ⟨ps_fld ho.pe hv.pe hs, fun p σ H ρ s Z e pk fin => ?_⟩
  refine hv.run p σ H ρ s _ e pk (FinS.step fin (fun H1 s1 k1 pk1 => e.keep pk.at k1) fun d s1 v H1 k1 pk1 rd fin1 => ?_)
  have e1 := e.keep pk.at k1
  refine ho.run p σ H1 ρ s1 _ e1 pk1 (FinS.step fin1 (fun H2 s2 k2 pk2 => e1.keep pk1.at k2) fun x s2 vx H2 k2 pk2 rx fin2 => ?_)
  cases x <;> first
    | exact False.elim fin2
    | skip
  dsimp only at fin2
  split at fin2
  · rename_i hok
    simp only [Bool.and_eq_true, beq_iff_eq, Option.isNone_iff_eq_none, decide_eq_true_eq] at hok
    obtain ⟨⟨⟨hn, hlk⟩, hcd⟩, hlen⟩ := hok
    obtain ⟨a, c, dx, ea, rfl⟩ := rx
    obtain ⟨vs, h1, ⟨hl, hcl, hcc⟩, rs⟩ := pk2.2.1 a c dx ea
    subst hcc
    have hz : ((s2.obj.map (·.1)).zip vs).lookup f = none := lookup_zip_none hlk
    have ha : p.out a := p.oko a _ dx ea
    refine ⟨a, _, dx, _, rfl, h1, by rw [hn]; exact hc, by rw [hn]; exact hna, by simp [hl] at hlen ⊢; omega, ?_⟩
    rw [putF_new hz]
    have hzz : (s2.obj.map (·.1)).zip vs ++ [(f, v)] = ((s2.obj ++ [(f, d)]).map (·.1)).zip (vs ++ [v]) := by
      rw [List.map_append, List.zip_append (by simpa using hl)]
      rfl
    rw [hzz]
    have kk : Keep p H2 (upd H2 a (.ins (G.cls s2.ocls) dx (((s2.obj ++ [(f, d)]).map (·.1)).zip (vs ++ [v])))) := fun b u nb eb => by
      rw [upd_ne (fun z => nb (.inr ⟨_, dx, by rw [z]; exact ea⟩))]; exact eb
    have rv : Rep G p H2 d v := rep_keep pk1.at k2 d v rd
    have pk3 : PenOk G p (upd H2 a (.ins (G.cls s2.ocls) dx (((s2.obj ++ [(f, d)]).map (·.1)).zip (vs ++ [v])))) { s2 with obj := s2.obj ++ [(f, d)] } := by
      refine ⟨fun b kd eb => ?_, fun x' c' dx' e' => ?_, fun b hb => ?_⟩
      · have hpen := pk2.1 b kd eb
        have hba : b ≠ a := by
          rcases hpen with ⟨_, z⟩ | ⟨_, c0, _, z, _⟩
          · exact ne_of z h1 (fun z => nomatch z)
          · exact ne_of z h1 (fun z => nomatch z)
        have hp2 : PenR p H2 b kd { s2 with obj := s2.obj ++ [(f, d)] } := hpen
        exact hp2.keep (upd_ne hba) fun c u hc eh => by rw [upd_ne (fun z => hc (by rw [z]; exact ha))]; exact eh
      · have e3 : (a, s2.ocls, dx) = (x', c', dx') := Option.some.inj (ea.symm.trans e')
        cases e3
        refine ⟨vs ++ [v], upd_same, ⟨by simp [hl], ?_, rfl⟩, ?_⟩
        · show clearL ((s2.obj ++ [(f, d)]).map (·.2)) = true
          rw [List.map_append, clearL_app, hcl]
          simp [clearL, hcd]
        · show RepL G.bare p _ ((s2.obj ++ [(f, d)]).map (·.2)) (vs ++ [v])
          rw [show (s2.obj ++ [(f, d)]).map (·.2) = s2.obj.map (·.2) ++ [d] by simp]
          exact repL_upd ha _ _ (repL_app (es := [d]) (us := [v]) rs ⟨v, [], rfl, rep_move (G := G) (G' := G.bare) rfl rfl (fun _ _ _ z => z) d v hcd rv, rfl⟩)
      · by_cases z : b = a
        · subst z; exact ⟨_, upd_same⟩
        · rw [upd_ne z]; exact pk2.2.2 b hb
    exact fin2 σ _ kk pk3 ((e1.keep pk1.at k2).keep pk2.at kk)
  · exact False.elim fin2

/-! ### C(..) -/
/-- the frame in which an object is made -/
def Fm.mk' (p : Fm) (x : Addr) (c : Nat) (dx : Addr) : Fm := ⟨p.pen, some (x, c, dx), fun b => p.out b ∨ b = x, fun b kd e => .inl (p.okp b kd e), fun y c' d' e => .inr (by cases e; rfl)⟩
def mkD (c : Nat) (m : List D → M D) : List D → M D := fun ds s => if clearL ds = true then (match m (.self :: ds) { s with obj := [], ocls := c } with
  | .ok .non s' => .ok (.ins c (s'.obj.map (·.1)) (s'.obj.map (·.2))) { s' with obj := s.obj, ocls := s.ocls }
  | .exc c' ns xs s' => if clearL xs = true then .exc c' ns xs { s' with obj := s.obj, ocls := s.ocls } else .bad
  | _ => .bad) else .bad
/-- back from the making -/
theorem pen_back {p : Fm} {H1 H0 H' : Hp} {s s' : Pen} {x : Addr} {c : Nat} {dx : Addr} (pk : PenOk G p H1 s) (hx : H1 x = none) (h0 : ∀ a o, H1 a = some o → H0 a = some o) (k : Keep (p.mk' x c dx) H0 H') (pk' : PenOk G (p.mk' x c dx) H' s') :
    Keep p H1 H' ∧ PenOk G p H' { s' with obj := s.obj, ocls := s.ocls } := by
  have hk : ∀ a o, (∀ kd, p.pen ≠ some (a, kd)) → H1 a = some o → H' a = some o := fun a o n e => k a o (fun z => z.elim (fun ⟨kd, z⟩ => n kd z) fun ⟨c', d', z⟩ => by cases z; rw [hx] at e; cases e) (h0 a o e)
  have kp : Keep p H1 H' := fun a o n e => hk a o (fun kd z => n (.inl ⟨kd, z⟩)) e
  refine ⟨kp, fun a kd ea => ?_, fun y c' d' e => ?_, fun b hb => pk'.2.2 b (.inl hb)⟩
  · rcases pk'.1 a kd ea with ⟨e1, e2⟩ | ⟨e1, c0, z0, z1, z2⟩
    · exact .inl ⟨e1, e2⟩
    · exact .inr ⟨e1, c0, fun z => z0 (.inl z), z1, z2⟩
  · obtain ⟨vs, h1, hl, h2⟩ := pk.2.1 y c' d' e
    refine ⟨vs, hk y _ (fun kd z => ?_) h1, hl, repL_keep trivial kp _ _ h2⟩
    rcases pk.1 y kd z with ⟨_, z⟩ | ⟨_, c0, _, z, _⟩ <;> (rw [h1] at z; cases z)
theorem make_ok {p : Fm} {H1 : Hp} {s : Pen} {σ : L2.St} {x dx : Addr} {c n : Nat} {ds : List D} {vs : List V} {m : List D → M D} {Q : VK} (pk : PenOk G p H1 s) (rs : RepL G p H1 ds vs) (hl : ds.length = n) (hx : H1 x = none) (hd : H1 dx = none) (hne : dx ≠ x) (fin : FinG G W (RelE G) p σ H1 Q (mkD c m ds s)) :
    spM G (n + 1) m (.ref x :: vs) (upd (upd H1 dx (.own x)) x (.ins (G.cls c) dx [])) (fun v H2 => v = .non ∧ Q (.ref x) H2) (WE W σ) := by
  unfold mkD at fin
  by_cases hcn : ¬ clearL ds = true
  · rw [if_neg hcn] at fin; exact False.elim fin
  have hc : clearL ds = true := Decidable.not_not.mp hcn
  rw [if_pos hc] at fin
  have hx' : upd H1 dx (.own x) x = none := by rw [upd_ne (Ne.symm hne)]; exact hx
  have h0 : ∀ a o, H1 a = some o → upd (upd H1 dx (.own x)) x (.ins (G.cls c) dx []) a = some o := fun a o e => by rw [upd_ne (ne_of_none e hx), upd_ne (ne_of_none e hd)]; exact e
  have hw : ∀ a o, H1 a = some o → ¬ p.out a → ¬ (p.mk' x c dx).out a := fun a o e n z => z.elim n fun z => ne_of_none e hx z
  have rs0 : RepL G (p.mk' x c dx) (upd (upd H1 dx (.own x)) x (.ins (G.cls c) dx [])) ds vs := repL_keep trivial (fun a o _ e => h0 a o e) _ _ (repL_move (G := G) (G' := G) (p := p) (q := p.mk' x c dx) rfl rfl hw _ _ hc rs)
  have pk0 : PenOk G (p.mk' x c dx) (upd (upd H1 dx (.own x)) x (.ins (G.cls c) dx [])) { s with obj := [], ocls := c } := by
    refine ⟨fun a kd ea => ?_, fun y c' d' e => ?_, fun b hb => ?_⟩
    · rcases pk.1 a kd ea with ⟨e1, e2⟩ | ⟨e1, c0, z0, z1, z2⟩
      · exact .inl ⟨e1, h0 _ _ e2⟩
      · exact .inr ⟨e1, c0, hw _ _ z2 z0, h0 _ _ z1, h0 _ _ z2⟩
    · cases e
      exact ⟨[], upd_same, ⟨rfl, rfl, rfl⟩, rfl⟩
    · rcases hb with hb | hb
      · obtain ⟨o, e⟩ := pk.2.2 b hb
        exact ⟨o, h0 b o e⟩
      · subst hb; exact ⟨_, upd_same⟩
  refine ⟨by rw [List.length_cons, ← repL_len rs, hl], p.mk' x c dx, .self :: ds, { s with obj := [], ocls := c }, ⟨.ref x, vs, rfl, ⟨x, c, dx, rfl, rfl⟩, rs0⟩, pk0, ?_⟩
  cases q : m (.self :: ds) { s with obj := [], ocls := c } with
  | bad => rw [q] at fin; exact False.elim fin
  | exc c' ns xs s' =>
    rw [q] at fin
    dsimp only at fin
    by_cases hxs : clearL xs = true
    · rw [if_pos hxs] at fin
      intro dd H' k pk' xk
      obtain ⟨kp, pkp⟩ := pen_back pk hx h0 k pk'
      refine fin dd H' kp pkp ?_
      obtain ⟨us, ru, xd⟩ := xk
      refine ⟨us, repL_move (G := G) (G' := G) (p := p.mk' x c dx) (q := p) rfl rfl (fun a o _ z y => z (.inl y)) _ _ hxs ru, ?_⟩
      rcases xd with xd | ⟨b, gs, e0, e1, e2, e3, e4⟩
      · exact .inl xd
      · exact .inr ⟨b, gs, e0, e1, fun z => e2 (.inl z), e3, e4⟩
    · rw [if_neg hxs] at fin; exact False.elim fin
  | ok d s' =>
    rw [q] at fin
    cases d <;> first
      | exact False.elim fin
      | skip
    intro v H' k pk' rv
    obtain ⟨kp, pkp⟩ := pen_back pk hx h0 k pk'
    obtain ⟨us, z1, ⟨zl, zc, _⟩, zr⟩ := pk'.2.1 x c dx rfl
    exact ⟨rv, fin _ H' kp pkp ⟨x, dx, us, rfl, pk.free hx, z1, by simpa using zl, repL_move (G := G.bare) (G' := G) (p := p.mk' x c dx) (q := p) rfl rfl (fun a o _ z y => z (.inl y)) _ _ zc zr⟩⟩
def tMakeS (C : Addr) (sp : Sp) (dvs : List V) (E : L2.St → XK) (t : TA) : TE := fun σ H Q => t σ H fun vs H1 => ∀ x dx, H1 x = none → H1 dx = none → dx ≠ x →
  sp (.ref x :: (vs ++ dvs)) (upd (upd H1 dx (.own x)) x (.ins C dx [])) (fun v H2 => v = .non ∧ Q (.ref x) H2) (E σ)
theorem pe_makeS {k : Nat} {C g : Addr} {fd : FuncData} {ps : List Str} {sp : Sp} {dvs : List V} {dl : List Value} {E : L2.St → XK} {x : Str} {p : Pos} {t : TA} (M : L2.Mk X.K C g) (F : FnOk X.prog X.w X.K X.mg X.base (L2.CX X.prog X.w) k g fd ps sp) (hr : Room (k + 1) X.A) (hg : Gl X x) (hm : X.mg x = some (.ref C)) (hb : L2.Binds X.K fd ps dl) (hd : Vals dvs dl) (hx : ∀ σ, PassesAt (L2.CX X.prog X.w) X σ (E σ))
    (ha : PA X (e :: es) t) (hdb : (x == ("__debug__" : Str)) = false := by decide) (he : starEach (e :: es) X.env = (false, eval e X.env) :: starEach es X.env := by rfl) (hpl : (backTo pos (starEach es X.env)).any (·.1) = false := by rfl) :
    PE X (.Call (.Name x p) (e :: es) [] pos) (tMakeS C sp dvs E t) := by
  refine ⟨fun pins s σ H Q I h => ?_⟩
  refine wpAny_Call_Name_kw (ld_glob I hg hm ?_ hdb)
  refine PySem.W.callWith_K (h₀ := X.base) I.ok.mod.kin M.kp (thn (ha.run pos pins s σ H _ I h) fun us s1 ⟨vs, H1, I1, r, q⟩ => ⟨I1.kIn, ?_⟩) he hpl
  have hq := q (s1.heap.objs.size + 1) s1.heap.objs.size (I1.hok.fresh (Nat.le_succ _)) (I1.hok.fresh (Nat.le_refl _)) (Nat.ne_of_lt (Nat.lt_succ_self _))
  have I2 := Inv.made (C := C) I1
  have r2 : Vals (V.ref (s1.heap.objs.size + 1) :: (vs ++ dvs)) (Value.ref (s1.heap.objs.size + 1) :: (us ++ dl)) := .cons rfl (r.append hd)
  have hl : (Value.ref (s1.heap.objs.size + 1) :: us ++ dl).length = ps.length := by
    have e := r2.length
    rw [F.len _ _ _ _ hq] at e
    exact e.symm
  refine wpAny_call (make_map (f := g) I1.kIn M.makes M.init (beq_iff_eq.mp M.fn) (codeAny_mono (F.run _ X.stack _ _ ⟨Value.ref (s1.heap.objs.size + 1) :: us, []⟩ (Value.ref (s1.heap.objs.size + 1) :: (us ++ dl)) _ _ (E σ) (hr.make C us [])
    (I2.env0.make C us []) (hb _ (Value.ref (s1.heap.objs.size + 1) :: us) I2.kIn hl) r2 hq) fun r s' hq' => ?_))
  cases r with
  | error er => exact hx σ pins _ _ er s' I2 hq'
  | ok fl =>
    cases fl with
    | ret u =>
      obtain ⟨v, H', I3, rv, ev, q3⟩ := I2.after hq'
      subst ev
      exact ⟨rv, ⟨V.ref (s1.heap.objs.size + 1), H', I3, rfl, q3⟩⟩
    | next => exact False.elim hq'
    | brk => exact False.elim hq'
    | cont => exact False.elim hq'
/-- what of a class is wanted to make one: its record, its __init__ -/
structure MkC (K : PySem.W.Frag) (mg : Str → Option Value) (x : Str) (C fI : Addr) (fd : FuncData) (ps : List Str) (dl : List Value) : Prop where
  made : L2.Mk K C fI
  m : mg x = some (.ref C)
  bd : L2.Binds K fd ps dl
theorem x_make {k n : Nat} {c : Nat} {g : Addr} {fd : FuncData} {ps : List Str} {dd : List D} {dvs : List V} {dl : List Value} {m : List D → M D} {x : Str} {p : Pos} (M : MkC X.K X.mg x (G.cls c) g fd ps dl) (F : FnOk X.prog X.w X.K X.mg X.base (L2.CX X.prog X.w) k g fd ps (spM G (n + 1) m)) (hr : Room (k + 1) X.A) (tk : Takes X W) (hd : Vals dvs dl) (hdd : ∀ p H, RepL G p H dd dvs)
    (ha : DA G X W (e :: es) tA fA) {j : Nat} (hl : LenA fA j) (hj : j + dd.length = n) (hg : Gl X x := by rfl) (hdb : (x == ("__debug__" : Str)) = false := by decide) (he : starEach (e :: es) X.env = (false, eval e X.env) :: starEach es X.env := by rfl) (hpl : (backTo pos (starEach es X.env)).any (·.1) = false := by rfl) :
    DE G X W (.Call (.Name x p) (e :: es) [] pos) (tMakeS (G.cls c) (spM G (n + 1) m) dvs (WE W) tA) (fun ρ => mbind (fA ρ) fun ds => mkD c m (ds ++ dd)) := by
  refine ⟨pe_makeS M.made F hr hg M.m M.bd hd (fun σ => passAt tk σ) ha.pa hdb he hpl, fun p σ H ρ s Q e pk fin => ?_⟩
  have fin' : FinG G W (RelE G) p σ H Q (obind (fA ρ s) fun ds => mkD c m (ds ++ dd)) := fin
  refine ha.run p σ H ρ s _ e pk ?_
  cases h : fA ρ s with
  | ok ds s1 =>
    rw [h] at fin'
    intro vs H1 k1 pk1 rs x dx hx hdx hne
    exact make_ok pk1 (repL_app rs (hdd p H1)) (by rw [List.length_append, hl ρ s ds s1 h]; exact hj) hx hdx hne (FinG.keep k1 fin')
  | exc c ns xs s1 => rw [h] at fin'; exact fin'
  | bad => rw [h] at fin'; exact fin'
end
end Tw

set_option Elab.async false
set_option linter.all false
set_option maxRecDepth 100000
set_option maxHeartbeats 4000000
set_option autoImplicit false
namespace Tw
open PySem L2 PySem.Spec PyProof.Rows
section
variable {K : PySem.W.Frag} {G : Gt} {W : WX} {X : Cx}
variable {a b c e o : Expr} {es : List Expr} {ta te to tv : TE} {fa fe fo fv : Loc → M D} {pos pos' apos : Pos} {tA : TA} {fA : Loc → M (List D)} {f m : Str}

/-! ### o.m(..) -/
def isI (n : Nat) (m : Str) : D → M Unit := fun d => match d with
  | .ins k ns _ => if (k == n && !ns.contains m) = true then mret () else mbad
  | _ => mbad
theorem lookup_zip_no {m : Str} : ∀ {ns : List Str} {vs : List V}, ns.contains m = false → (ns.zip vs).lookup m = none
  | [], vs, _ => by simp
  | n :: ns, [], _ => by simp
  | n :: ns, v :: vs, h => by
    simp only [List.contains_cons, Bool.or_eq_false_iff] at h
    simp only [List.zip_cons_cons, List.lookup, h.1]
    exact lookup_zip_no h.2
theorem isI_of {p : Fm} {H : Hp} {n : Nat} {m : Str} {d : D} {v : V} {s s' : Pen} {u : Unit} (h : isI n m d s = .ok u s') (r : Rep G p H d v) : s' = s ∧ ∃ a dx fs, v = .ref a ∧ ¬ p.out a ∧ H a = some (.ins (G.cls n) dx fs) ∧ fs.lookup m = none := by
  unfold isI at h
  cases d <;> first
    | (cases h; done)
    | skip
  rename_i k ns xs
  dsimp only at h
  split at h
  · rename_i hk
    rw [Bool.and_eq_true, Bool.not_eq_true'] at hk
    obtain ⟨hk1, hk2⟩ := hk
    obtain rfl : k = n := beq_iff_eq.mp hk1
    cases h
    obtain ⟨a, dx, vs, rfl, h0, h1, hl, rs⟩ := r
    exact ⟨rfl, a, dx, _, rfl, h0, h1, lookup_zip_no hk2⟩
  · cases h
theorem isI_not {n : Nat} {m : Str} {d : D} {s : Pen} : (∃ u s', isI n m d s = .ok u s') ∨ isI n m d s = .bad := by
  unfold isI
  cases d <;> try (exact .inr rfl)
  dsimp only
  split
  · exact .inl ⟨(), s, rfl⟩
  · exact .inr rfl
def tMethV (C : Addr) (m : Str) (sp : Sp) (dvs : List V) (E : L2.St → XK) (ta : TE) (t : TA) : TE := fun σ H Q => ta σ H fun x H1 => ∃ a dx fs, x = .ref a ∧ H1 a = some (.ins C dx fs) ∧ fs.lookup m = none ∧ t σ H1 fun vs H2 => sp (x :: (vs ++ dvs)) H2 Q (E σ)
section
variable {CX : CXT} {k : Nat} {C g : Addr} {fd : FuncData} {ps : List Str} {sp : Sp} {dvs : List V} {dl : List Value} {E : L2.St → XK} {t : TA} {pl : Sem Bool}
theorem pe_methV (he : PE X o ta) (c : L2.Cls X.K C) (hm : L2.Meth X.K C m g) (F : FnOk X.prog X.w X.K X.mg X.base CX k g fd ps sp) (hr : Room k X.A) (hb : L2.Binds X.K fd ps dl) (hd : Vals dvs dl) (hx : ∀ σ, PassesAt CX X σ (E σ)) (ha : PA X (e :: es) t)
    (hst : starEach (e :: es) X.env = (false, eval e X.env) :: starEach es X.env := by rfl) (hpl : (backTo pos (starEach es X.env)).any (·.1) = false := by rfl)
    (ht : eval (.Call (.Attribute o m apos) (e :: es) [] pos) X.env = (do
      let ov ← eval o X.env
      standAt apos.atName
      let (f, first) ← holding [ov] (getMethod ov m pl)
      callWith pos f first (backTo pos (starEach (e :: es) X.env)) (backToKw pos (keywordEach [] X.env))) := by rfl) :
    PE X (.Call (.Attribute o m apos) (e :: es) [] pos) (tMethV C m sp dvs E ta t) := by
  refine ⟨fun pins s σ H Q I h => ?_⟩
  refine PySem.W.methodCall_KW (pl := pl) (thn (he.run pins s σ H _ I h) fun u s1 ⟨x, H1, I1, rx, a, dx, fs, ex, ea, l, q⟩ => ?_) ht
  subst ex
  obtain rfl : u = Value.ref a := rx
  refine getmeth_ok I1 ea c hm l ?_
  refine PySem.W.callWith_K (first := [.ref a]) (h₀ := X.base) I.ok.mod.kin hm.kp (thn (ha.run pos pins s1 σ H1 _ I1 q) fun us s2 ⟨vs, H2, I2, r, q2⟩ => ⟨I2.kIn, ?_⟩) hst hpl
  exact run_fnSD (E := E) (us := .ref a :: us) (vs := .ref a :: vs) F hr hb hd (hx σ) I2 (.cons rfl r) q2
theorem pe_methV0 (he : PE X o ta) (c : L2.Cls X.K C) (hm : L2.Meth X.K C m g) (F : FnOk X.prog X.w X.K X.mg X.base CX k g fd ps sp) (hr : Room k X.A) (hb : L2.Binds X.K fd ps dl) (hd : Vals dvs dl) (hx : ∀ σ, PassesAt CX X σ (E σ))
    (ht : eval (.Call (.Attribute o m apos) [] [] pos) X.env = (do
      let ov ← eval o X.env
      standAt apos.atName
      let (f, first) ← holding [ov] (getMethod ov m pl)
      callWith pos f first (backTo pos (starEach [] X.env)) (backToKw pos (keywordEach [] X.env))) := by rfl) :
    PE X (.Call (.Attribute o m apos) [] [] pos) (tMethV C m sp dvs E ta tNil) := by
  refine ⟨fun pins s σ H Q I h => ?_⟩
  refine PySem.W.methodCall_KW (pl := pl) (thn (he.run pins s σ H _ I h) fun u s1 ⟨x, H1, I1, rx, a, dx, fs, ex, ea, l, q⟩ => ?_) ht
  subst ex
  obtain rfl : u = Value.ref a := rx
  refine getmeth_ok I1 ea c hm l ?_
  exact PySem.W.callWith_K0 (first := [.ref a]) I1.kIn hm.kp (run_fnSD (E := E) (us := [.ref a]) (vs := [.ref a]) F hr hb hd (hx σ) I1 (.cons rfl .nil) q)
end
/-- a method of an own class -/
structure Mtd (K : PySem.W.Frag) (C : Addr) (m : Str) (ps : List Str) (dl : List Value) (g : Addr) (fd : FuncData) : Prop where
  c : L2.Cls K C
  at_ : L2.Meth K C m g
  b : L2.Binds K fd ps dl
def kMeth (n : Nat) (m : Str) (md : List D → M D) (dd : List D) (fo : Loc → M D) (fA : Loc → M (List D)) : Loc → M D := fun ρ => mbind (fo ρ) fun d => mbind (isI n m d) fun _ => mbind (fA ρ) fun ds => md (d :: (ds ++ dd))
theorem run_meth {n j N : Nat} {md : List D → M D} {dd : List D} {dvs : List V} (hdd : ∀ p H, RepL G p H dd dvs) (ho : RunG G W (RelE G) to fo) (ha : RunG G W (RelA G) tA fA) (hl : LenA fA j) (hj : j + dd.length + 1 = N) :
    RunG G W (RelE G) (tMethV (G.cls n) m (spM G N md) dvs (WE W) to tA) (kMeth n m md dd fo fA) := by
  intro p σ H ρ s Q e pk fin
  refine ho p σ H ρ s _ e pk (FinG.step (RA := RelE G) fin fun d s1 v H1 k1 pk1 rd fin1 => ?_)
  have fin3 : FinG G W (RelE G) p σ H1 Q (obind (isI n m d s1) fun _ => mbind (fA ρ) fun ds => md (d :: (ds ++ dd))) := fin1
  rcases isI_not (n := n) (m := m) (d := d) (s := s1) with ⟨u, s2, h⟩ | h
  · rw [h] at fin3
    obtain ⟨rfl, x, dx, fs, rfl, hx0, hx, hlk⟩ := isI_of h rd
    refine ⟨x, dx, fs, rfl, hx, hlk, ?_⟩
    have fin2 : FinG G W (RelE G) p σ H1 Q (obind (fA ρ s2) fun ds => md (d :: (ds ++ dd))) := fin3
    refine ha p σ H1 ρ s2 _ (e.keep pk.at k1) pk1 ?_
    cases h2 : fA ρ s2 with
    | ok ds s3 =>
      rw [h2] at fin2
      intro vs H2 k2 pk2 rs
      have hlen : (ds ++ dd).length + 1 = N := by rw [List.length_append, hl ρ s2 ds s3 h2]; exact hj
      have rr : RepL G p H2 (ds ++ dd) (vs ++ dvs) := repL_app rs (hdd p H2)
      exact ⟨by rw [List.length_cons, ← repL_len rr]; exact hlen, p, d :: (ds ++ dd), s3, ⟨.ref x, vs ++ dvs, rfl, rep_keep pk1.at k2 d _ rd, rr⟩, pk2, (FinG.keep k2 fin2).wx fun _ _ _ z => z⟩
    | exc c ns xs s3 => rw [h2] at fin2; exact fin2
    | bad => rw [h2] at fin2; exact fin2
  · rw [h] at fin3; exact False.elim fin3
theorem x_meth {k n j N : Nat} {g : Addr} {fd : FuncData} {ps : List Str} {md : List D → M D} {dd : List D} {dvs : List V} {dl : List Value} (M : Mtd X.K (G.cls n) m ps dl g fd) (F : FnOk X.prog X.w X.K X.mg X.base (L2.CX X.prog X.w) k g fd ps (spM G N md)) (hr : Room k X.A) (tk : Takes X W) (hd : Vals dvs dl) (hdd : ∀ p H, RepL G p H dd dvs)
    (ho : DE G X W o to fo) (ha : DA G X W (e :: es) tA fA) (hl : LenA fA j) (hj : j + dd.length + 1 = N)
    (hst : starEach (e :: es) X.env = (false, eval e X.env) :: starEach es X.env := by rfl) (hpl : (backTo pos (starEach es X.env)).any (·.1) = false := by rfl) {pl : Sem Bool}
    (ht : eval (.Call (.Attribute o m apos) (e :: es) [] pos) X.env = (do
      let ov ← eval o X.env
      standAt apos.atName
      let (f, first) ← holding [ov] (getMethod ov m pl)
      callWith pos f first (backTo pos (starEach (e :: es) X.env)) (backToKw pos (keywordEach [] X.env))) := by rfl) :
    DE G X W (.Call (.Attribute o m apos) (e :: es) [] pos) (tMethV (G.cls n) m (spM G N md) dvs (WE W) to tA) (kMeth n m md dd fo fA) :=
  ⟨pe_methV ho.pe M.c M.at_ F hr M.b hd (fun σ => passAt tk σ) ha.pa hst hpl ht, run_meth hdd ho.run ha.run hl hj⟩
theorem x_meth0 {k n N : Nat} {g : Addr} {fd : FuncData} {ps : List Str} {md : List D → M D} {dd : List D} {dvs : List V} {dl : List Value} (M : Mtd X.K (G.cls n) m ps dl g fd) (F : FnOk X.prog X.w X.K X.mg X.base (L2.CX X.prog X.w) k g fd ps (spM G N md)) (hr : Room k X.A) (tk : Takes X W) (hd : Vals dvs dl) (hdd : ∀ p H, RepL G p H dd dvs)
    (ho : DE G X W o to fo) (hj : 0 + dd.length + 1 = N) {pl : Sem Bool}
    (ht : eval (.Call (.Attribute o m apos) [] [] pos) X.env = (do
      let ov ← eval o X.env
      standAt apos.atName
      let (f, first) ← holding [ov] (getMethod ov m pl)
      callWith pos f first (backTo pos (starEach [] X.env)) (backToKw pos (keywordEach [] X.env))) := by rfl) :
    DE G X W (.Call (.Attribute o m apos) [] [] pos) (tMethV (G.cls n) m (spM G N md) dvs (WE W) to tNil) (kMeth n m md dd fo aNil) :=
  ⟨pe_methV0 ho.pe M.c M.at_ F hr M.b hd (fun σ => passAt tk σ) ht, run_meth hdd ho.run (a_nil (X := X)).run l_nil hj⟩

/-! ### where nothing is let out -/
theorem FinG.calm {α β : Type} {W' : WX} {R : Fm → Hp → α → β → Prop} {p : Fm} {σ σ' : L2.St} {H : Hp} {s : Pen} {Q : β → Hp → Prop} {md : M α} (h : FinG G W R p σ H Q (nox md s)) : FinG G W' R p σ' H Q (md s) := by
  unfold nox at h
  cases q : md s with
  | ok a s1 => rw [q] at h; exact h
  | exc c ns xs s1 => rw [q] at h; exact False.elim h
  | bad => rw [q] at h; exact h
/-- a property of an own class -/
structure Prp (K : PySem.W.Frag) (C : Addr) (m : Str) (ps : List Str) (pr g : Addr) (fd : FuncData) : Prop where
  c : L2.Cls K C
  at_ : PropOf K C m pr g
  b : L2.Binds K fd ps []
def kProp (n : Nat) (m : Str) (md : List D → M D) (fo : Loc → M D) : Loc → M D := fun ρ => mbind (fo ρ) fun d => mbind (isI n m d) fun _ => nox (md [d])
theorem x_prop {k n : Nat} {pr g : Addr} {fd : FuncData} {ps : List Str} {md : List D → M D} (M : Prp X.K (G.cls n) m ps pr g fd) (F : FnOk X.prog X.w X.K X.mg X.base (L2.CX X.prog X.w) k g fd ps (spM G 1 md)) (hr : Room (k + 1) X.A) (ho : DE G X W o to fo)
    (hab : attributeBase o m X.env (eval o X.env) = eval o X.env := by rfl) : DE G X W (.Attribute o m pos) (tProp (G.cls n) (spM G 1 md) [] (fun _ _ _ => False) to) (kProp n m md fo) := by
  refine ⟨pe_prop ho.pe M.c M.at_ F hr M.b .nil passL hab, fun p σ H ρ s Q e pk fin => ?_⟩
  refine ho.run p σ H ρ s _ e pk (FinG.step (RA := RelE G) fin fun d s1 v H1 k1 pk1 rd fin1 => ?_)
  have fin3 : FinG G W (RelE G) p σ H1 Q (obind (isI n m d s1) fun _ => nox (md [d])) := fin1
  rcases isI_not (n := n) (m := m) (d := d) (s := s1) with ⟨u, s2, h⟩ | h
  · rw [h] at fin3
    obtain ⟨rfl, x, dx, fs, rfl, hx0, hx, hlk⟩ := isI_of h rd
    exact ⟨x, dx, fs, rfl, hx, rfl, p, [d], s2, ⟨.ref x, [], rfl, rd, rfl⟩, pk1, FinG.calm (md := md [d]) fin3⟩
  · rw [h] at fin3; exact False.elim fin3
/-- a classmethod of an own class, by the class's name -/
structure Cmt (K : PySem.W.Frag) (C : Addr) (m : Str) (ps : List Str) (dl : List Value) (mc : Value) (pr g : Addr) (fd : FuncData) : Prop where
  rd : ClX.CRead K C mc
  at_ : ClX.CMet K C mc m pr g
  b : L2.Binds K fd ps dl
def kCmt (c : Nat) (md : List D → M D) (dd : List D) (fo : Loc → M D) (fA : Loc → M (List D)) : Loc → M D := fun ρ => mbind (fo ρ) fun d => match d with
  | .cls k => if (k == c) = true then mbind (fA ρ) fun ds => nox (md (.cls c :: (ds ++ dd))) else mbad
  | _ => mbad
theorem x_cmt {k c j N : Nat} {mc : Value} {pr g : Addr} {fd : FuncData} {ps : List Str} {md : List D → M D} {dd : List D} {dvs : List V} {dl : List Value} (M : Cmt X.K (G.cls c) m ps dl mc pr g fd) (F : FnOk X.prog X.w X.K X.mg X.base (L2.CX X.prog X.w) k g fd ps (spM G N md)) (hr : Room k X.A) (hd : Vals dvs dl) (hdd : ∀ p H, RepL G p H dd dvs)
    (ho : DE G X W o to fo) (ha : DA G X W (e :: es) tA fA) (hl : LenA fA j) (hj : j + dd.length + 1 = N)
    (hst : starEach (e :: es) X.env = (false, eval e X.env) :: starEach es X.env := by rfl) (hpl : (backTo pos (starEach es X.env)).any (·.1) = false := by rfl) {pl : Sem Bool}
    (ht : eval (.Call (.Attribute o m apos) (e :: es) [] pos) X.env = (do
      let ov ← eval o X.env
      standAt apos.atName
      let (f, first) ← holding [ov] (getMethod ov m pl)
      callWith pos f first (backTo pos (starEach (e :: es) X.env)) (backToKw pos (keywordEach [] X.env))) := by rfl) :
    DE G X W (.Call (.Attribute o m apos) (e :: es) [] pos) (ClX.tCMeth (G.cls c) (fun vs H Q E => spM G N md (vs ++ dvs) H Q E) (fun _ _ _ => False) to tA) (kCmt c md dd fo fA) := by
  refine ⟨ClX.pe_cmeth ho.pe M.rd M.at_ (F.raw M.b hd) hr passL ha.pa hst hpl ht, fun p σ H ρ s Q e pk fin => ?_⟩
  refine ho.run p σ H ρ s _ e pk (FinG.step (RA := RelE G) fin fun d s1 v H1 k1 pk1 rd fin1 => ?_)
  cases d <;> try (exact False.elim fin1)
  rename_i kk
  dsimp only at fin1
  by_cases hk : (kk == c) = true
  · rw [if_pos hk] at fin1
    obtain rfl : kk = c := beq_iff_eq.mp hk
    refine ⟨rd, ?_⟩
    have fin2 : FinG G W (RelE G) p σ H1 Q (obind (fA ρ s1) fun ds => nox (md (.cls kk :: (ds ++ dd)))) := fin1
    refine ha.run p σ H1 ρ s1 _ (e.keep pk.at k1) pk1 ?_
    cases h2 : fA ρ s1 with
    | ok ds s3 =>
      rw [h2] at fin2
      intro vs H2 k2 pk2 rs
      have hlen : (ds ++ dd).length + 1 = N := by rw [List.length_append, hl ρ s1 ds s3 h2]; exact hj
      have rr : RepL G p H2 (ds ++ dd) (vs ++ dvs) := repL_app rs (hdd p H2)
      exact ⟨by rw [List.cons_append, List.length_cons, ← repL_len rr]; exact hlen, p, .cls kk :: (ds ++ dd), s3, ⟨.ref (G.cls kk), vs ++ dvs, rfl, rfl, rr⟩, pk2, FinG.calm (FinG.keep k2 fin2)⟩
    | exc c ns xs s3 => rw [h2] at fin2; exact fin2
    | bad => rw [h2] at fin2; exact fin2
  · rw [if_neg hk] at fin1; exact False.elim fin1
end
end Tw

set_option Elab.async false
set_option linter.all false
set_option maxRecDepth 100000
set_option maxHeartbeats 4000000
set_option autoImplicit false
namespace Tw
open PySem L2 PySem.Spec PyProof.Rows
/-! ### own operators -/
section
variable {prog : Program} {w : World} {A : Around} {E : Value → Shared → Prop} {s : Shared} {K : PySem.W.Frag} {x y C f : Addr} {ox oy : Obj} {od oe : Option Obj}
open PySem.W in
theorem bin_same {op : Operator} {Q : Value → Shared → Prop} (X : K.In s.heap) (I : PySem.W.InstAt s.heap x ox C od) (J : PySem.W.InstAt s.heap y oy C oe) (hc : selfFirst K C = true)
    (hs : findIn K (.ref C) (PySem.dunder op.info.2) = some (some (.ref f))) (hf : isFn K (.ref f) = true)
    (h : wpAny (model prog w) A (call (.ref f) [.ref x, .ref y]) (PySem.W.CmpBack Q) E s) : wpAny (model prog w) A (binaryOp op (.ref x) (.ref y)) Q E s := by
  obtain ⟨cd, rest, hcd, hm⟩ := ksp_first hc
  rcases hi : op.info with ⟨sym, nm'⟩
  rw [hi] at hs
  dsimp only at hs
  have one := ksp_try X I hs hf h
  obtain ⟨hh, g, d, tt, os⟩ := s
  have L1 : Looks (model prog w) hh (typeOf (.ref x)) (.ref C) := I.type
  have L2 : Looks (model prog w) hh (typeOf (.ref y)) (.ref C) := J.type
  have L3 : Looks (model prog w) hh (fillsNumberSlot (.ref C) nm') true := fills_K X hcd hm hs
  simp only [binaryOp, hi]
  refine wpAny_holding (wpAny_bind ?_)
  unfold binaryOp1
  refine wpAny_bind (L1.at (wpAny_bind (L2.at (wpAny_bind (L3.at ?_)))))
  simp only [beq_self_eq_true, if_true]
  ksp_lk
  refine wpAny_mono one (fun r s' hr' => ?_) fun _ _ e => e
  obtain ⟨v, rfl, hq⟩ := hr'
  ksp_lk
  exact hq
end
section
variable {K : PySem.W.Frag} {G : Gt} {W : WX} {X : Cx}
/-- what is handed back by a def is no NotImplemented -/
theorem back_of {pins : List (Addr × Obj)} {σ : L2.St} {Q : VK} {v : Value} {s : Shared} (h : EP X pins σ Q v s) : PySem.W.CmpBack (EP X pins σ Q) v s := by
  obtain ⟨u, H, I, r, q⟩ := h
  unfold PySem.W.CmpBack
  cases v <;> first
    | exact ⟨u, H, I, r, q⟩
    | (cases u <;> first
        | (cases r; done)
        | (obtain ⟨t, e⟩ := r; cases e; done))
/-- an own operator of a class -/
structure Opr (K : PySem.W.Frag) (C : Addr) (op : Operator) (g : Addr) (fd : FuncData) (ps : List Str) : Prop where
  first : PySem.W.selfFirst K C = true
  at_ : PySem.W.findIn K (.ref C) (PySem.dunder op.info.2) = some (some (.ref g))
  isf : PySem.W.isFn K (.ref g) = true
  b : L2.Binds K fd ps []
/-- .. its right hand a whole number -/
structure OprI (K : PySem.W.Frag) (C : Addr) (op : Operator) : Prop where
  r : PySem.W.findIn K (.ref C) (dunderR op.info.2) = some none
  h1 : ∃ fo, PySem.W.findIn K (.type "int") (PySem.dunder op.info.2) = some fo
  h2 : ∃ ro, PySem.W.findIn K (.type "int") (dunderR op.info.2) = some ro
  sub : PySem.W.subIn K (.type "int") (.ref C) = some false
def rOwn (C : Addr) (sp : Sp) : R2 := fun x y H Q => ∃ a dx fs b dy gs, x = .ref a ∧ y = .ref b ∧ H a = some (.ins C dx fs) ∧ H b = some (.ins C dy gs) ∧ sp [x, y] H Q (fun _ _ _ => False)
def rOwnI (C : Addr) (sp : Sp) : R2 := fun x y H Q => ∃ a dx fs i, x = .ref a ∧ y = .int i ∧ H a = some (.ins C dx fs) ∧ sp [x, y] H Q (fun _ _ _ => False)
def rNeg (C : Addr) (sp : Sp) : V → Hp → VK → Prop := fun x H Q => ∃ a dx fs, x = .ref a ∧ H a = some (.ins C dx fs) ∧ sp [x] H Q (fun _ _ _ => False)
variable {op : Operator} {C g : Addr} {qual : Str} {st : Stmt} {fd : FuncData} {ps : List Str} {k : Nat} {sp : Sp}
theorem inst_of {pins : List (Addr × Obj)} {σ : L2.St} {H : Hp} {s : Shared} {a dx : Addr} {fs : List (Str × V)} (I : Inv X pins σ H s) (ea : H a = some (.ins C dx fs)) : ∃ ox od, PySem.W.InstAt s.heap a ox C od := by
  obtain ⟨mA, O, _, _, _, _⟩ := ins_get I.hok ea
  obtain ⟨od, J, _⟩ := O.look
  exact ⟨_, _, J⟩
theorem op_own (M : Opr X.K C op g fd ps) (F : FnOk X.prog X.w X.K X.mg X.base (L2.CX X.prog X.w) k g fd ps sp) (hr : Room k X.A) : OpR X (binaryOp op) (rOwn C sp) := by
  intro pins s σ H x y v u Q I rx ry h
  obtain ⟨a, dx, fs, b, dy, gs, rfl, rfl, ha, hb, q⟩ := h
  obtain rfl : v = Value.ref a := rx
  obtain rfl : u = Value.ref b := ry
  obtain ⟨ox, od, J⟩ := inst_of I ha
  obtain ⟨oy, oe, J'⟩ := inst_of I hb
  exact bin_same I.kIn J J' M.first M.at_ M.isf (wpAny_mono (run_fn (us := [.ref a, .ref b]) (vs := [.ref a, .ref b]) (dvs := []) F hr M.b .nil passL I (.cons rfl (.cons rfl .nil)) q) (fun _ _ z => back_of z) fun _ _ z => z)
theorem op_ownI (M : Opr X.K C op g fd ps) (N : OprI X.K C op) (F : FnOk X.prog X.w X.K X.mg X.base (L2.CX X.prog X.w) k g fd ps sp) (hr : Room k X.A) : OpR X (binaryOp op) (rOwnI C sp) := by
  intro pins s σ H x y v u Q I rx ry h
  obtain ⟨a, dx, fs, i, rfl, rfl, ha, q⟩ := h
  obtain rfl : v = Value.ref a := rx
  obtain ⟨t, rfl⟩ := ry
  obtain ⟨ox, od, J⟩ := inst_of I ha
  obtain ⟨fo, h1⟩ := N.h1
  obtain ⟨ro, h2⟩ := N.h2
  obtain ⟨m, F0⟩ := I.fr
  exact PySem.W.ksp_binT (T := "int") F0 I.ok.mod.kin J rfl M.first M.at_ M.isf N.r (.inl rfl) h1 h2 N.sub (wpAny_mono (run_fn (us := [.ref a, .int i t]) (vs := [.ref a, .int i]) (dvs := []) F hr M.b .nil passL I (.cons rfl (.cons ⟨t, rfl⟩ .nil)) q) (fun _ _ z => back_of z) fun _ _ z => z)
/-- -e of an own class -/
structure Ong (K : PySem.W.Frag) (C : Addr) (g : Addr) (fd : FuncData) (ps : List Str) : Prop where
  at_ : PySem.W.findIn K (.ref C) "__neg__" = some (some (.ref g))
  isf : PySem.W.isFn K (.ref g) = true
  b : L2.Binds K fd ps []
theorem un_own (M : Ong X.K C g fd ps) (F : FnOk X.prog X.w X.K X.mg X.base (L2.CX X.prog X.w) k g fd ps sp) (hr : Room k X.A) : UnR X (unaryOp .USub) (rNeg C sp) := by
  intro pins s σ H x v Q I rx h
  obtain ⟨a, dx, fs, rfl, ha, q⟩ := h
  obtain rfl : v = Value.ref a := rx
  obtain ⟨ox, od, J⟩ := inst_of I ha
  obtain ⟨m, F0⟩ := I.fr
  exact PySem.W.ksp_neg F0 I.ok.mod.kin J M.at_ M.isf (run_fn (us := [.ref a]) (vs := [.ref a]) (dvs := []) F hr M.b .nil passL I (.cons rfl .nil) q)
/-! mirrors -/
def ownB (n : Nat) (md : List D → M D) : D → D → M D := fun x y => match x, y with
  | .ins k _ _, .ins j _ _ => if (k == n && j == n) = true then nox (md [x, y]) else mbad
  | _, _ => mbad
def ownI (n : Nat) (md : List D → M D) : D → D → M D := fun x y => match x, y with
  | .ins k _ _, .int _ => if (k == n) = true then nox (md [x, y]) else mbad
  | _, _ => mbad
def ownN (n : Nat) (md : List D → M D) : D → M D := fun x => match x with
  | .ins k _ _ => if (k == n) = true then nox (md [x]) else mbad
  | _ => mbad
variable {n : Nat} {md : List D → M D}
theorem prim_ownB : Prim2 G (rOwn (G.cls n) (spM G 2 md)) (ownB n md) := by
  intro W p σ H s x y vx vy Q pk rx ry fin
  unfold ownB at fin
  split at fin
  · split at fin
    · rename_i kx nx xs ky ny ys hk
      rw [Bool.and_eq_true] at hk
      obtain rfl : kx = n := beq_iff_eq.mp hk.1
      obtain rfl : ky = kx := beq_iff_eq.mp hk.2
      obtain ⟨a, dx, vs, rfl, a0, a1, al, as⟩ := id rx
      obtain ⟨b, dy, us, rfl, b0, b1, bl, bs⟩ := id ry
      exact ⟨a, dx, _, b, dy, _, rfl, rfl, a1, b1, rfl, p, [.ins _ nx xs, .ins _ ny ys], s, ⟨_, _, rfl, rx, _, _, rfl, ry, rfl⟩, pk, FinG.calm fin⟩
    · exact False.elim fin
  · exact False.elim fin
theorem prim_ownI : Prim2 G (rOwnI (G.cls n) (spM G 2 md)) (ownI n md) := by
  intro W p σ H s x y vx vy Q pk rx ry fin
  unfold ownI at fin
  split at fin
  · split at fin
    · rename_i kx nx xs i hk
      obtain rfl : kx = n := beq_iff_eq.mp hk
      obtain ⟨a, dx, vs, rfl, a0, a1, al, as⟩ := id rx
      obtain rfl : vy = .int i := ry
      exact ⟨a, dx, _, i, rfl, rfl, a1, rfl, p, [.ins _ nx xs, .int i], s, ⟨_, _, rfl, rx, _, _, rfl, rfl, rfl⟩, pk, FinG.calm fin⟩
    · exact False.elim fin
  · exact False.elim fin
theorem prim_ownN : Prim1 G (rNeg (G.cls n) (spM G 1 md)) (ownN n md) := by
  intro W p σ H s x vx Q pk rx fin
  unfold ownN at fin
  split at fin
  · split at fin
    · rename_i kx nx xs hk
      obtain rfl : kx = n := beq_iff_eq.mp hk
      obtain ⟨a, dx, vs, rfl, a0, a1, al, as⟩ := id rx
      exact ⟨a, dx, _, rfl, a1, rfl, p, [.ins _ nx xs], s, ⟨_, _, rfl, rx, rfl⟩, pk, FinG.calm fin⟩
    · exact False.elim fin
  · exact False.elim fin

/-! ### the bag's items -/
inductive Bx where
  | rest | seed | turn
def Bx.ix : Bx → Int
  | .rest => 0
  | .seed => 1
  | .turn => 2
def Pen.bget (s : Pen) : Bx → Int
  | .rest => s.rest
  | .seed => s.seed
  | .turn => s.turn
def Pen.bput (s : Pen) (f : Bx) (i : Int) : Pen := match f with
  | .rest => { s with rest := i }
  | .seed => { s with seed := i }
  | .turn => { s with turn := i }
def bagGet (fe : Loc → M D) (f : Bx) : Loc → M D := fun ρ => mbind (fe ρ) fun d => fun s => match d with
  | .bag => .ok (.int (s.bget f)) s
  | _ => .bad
variable {o e : Expr} {to te tv : TE} {fo fv : Loc → M D} {pos pos' pk' : Pos} {j : Nat} {value : Expr}
theorem de_bagGet (f : Bx) (hK : X.K = K) (ho : DE G X W o to fo) {i : Int} (hi : i = f.ix) : DE G X W (.Subscript o (.Constant (.int i) j pk') pos) (tOp (fun x y H Q => rIxL K x y H Q ∨ rIxT K x y H Q) to (tC (.int i))) (bagGet fo f) := by
  subst hi
  refine ⟨pe_ix (ix_any hK) ho.pe pe_int (fun _ _ => rfl), fun p σ H ρ s Q e pk fin => ?_⟩
  refine ho.run p σ H ρ s _ e pk (fin.step fun d s1 v H1 k1 pk1 rd fin1 => ?_)
  cases d <;> first
    | exact False.elim fin1
    | skip
  obtain ⟨a, ea, rfl⟩ := rd
  obtain ⟨-, h1⟩ := (pk1.1 a true ea).resolve_right fun z => nomatch z.1
  refine .inl ⟨a, _, _, _, rfl, rfl, SqL.of h1, ?_, fin1 _ H1 Keep.refl pk1 rfl⟩
  cases f <;> rfl
def bagPut (fo fv : Loc → M D) (f : Bx) : MS := fun ρ s => sof (fv ρ s) ρ fun d s1 => sof (fo ρ s1) ρ fun x s2 => match x, d with
  | .bag, .int i => .nx ρ (s2.bput f i)
  | _, _ => .bad
theorem ds_bagPut (f : Bx) (ho : DE G X W o to fo) (hv : DE G X W value tv fv) {i : Int} (hi : i = f.ix)
    (ha : ∀ v, assign (.Subscript o (.Constant (.int i) j pk') pos') X.env v = (do
      let ov ← holding [v] (eval o X.env)
      let iv ← holding [v, ov] (eval (.Constant (.int i) j pk') X.env)
      standAt pos'
      holding [v, ov, iv] (setItem ov iv v)
      release [v, ov, iv] []) := by intro _; rfl)
    (hs : swapsWithSole [.Subscript o (.Constant (.int i) j pk') pos'] value pos.line X.env = pure false := by rfl) (hw : swappedStores [.Subscript o (.Constant (.int i) j pk') pos'] value X.env = pure none := by rfl)
    (h1 : (assignEach [.Subscript o (.Constant (.int i) j pk') pos'] X.env).map (·.2) = [assign (.Subscript o (.Constant (.int i) j pk') pos') X.env] := by rfl) :
    DS G X W (.Assign [.Subscript o (.Constant (.int i) j pk') pos'] value pos) (tAsg tv (gSub to (tC (.int i)) rSetL)) (bagPut fo fv f) := by
  subst hi
  refine ⟨ps_asg hv.pe (pg_sub ho.pe pe_int set_list ha) hs hw h1, fun p σ H ρ s Z e pk fin => ?_⟩
  refine hv.run p σ H ρ s _ e pk (FinS.step fin (fun H1 s1 k1 pk1 => e.keep pk.at k1) fun d s1 v H1 k1 pk1 rd fin1 => ?_)
  have e1 := e.keep pk.at k1
  refine ho.run p σ H1 ρ s1 _ e1 pk1 (FinS.step fin1 (fun H2 s2 k2 pk2 => e1.keep pk1.at k2) fun x s2 vx H2 k2 pk2 rx fin2 => ?_)
  cases x <;> first
    | exact False.elim fin2
    | skip
  cases d <;> first
    | exact False.elim fin2
    | skip
  rename_i i
  obtain ⟨a, ea, rfl⟩ := rx
  obtain ⟨-, hb⟩ := (pk2.1 a true ea).resolve_right fun z => nomatch z.1
  obtain rfl : v = .int i := rd
  have hout : p.out a := p.okp a true ea
  refine ⟨a, _, _, (match f with | .rest => 0 | .seed => 1 | .turn => 2), rfl, rfl, hb, by cases f <;> rfl, ?_⟩
  have hset : ([V.int s2.rest, .int s2.seed, .int s2.turn].set (match f with | .rest => 0 | .seed => 1 | .turn => 2) (.int i)) = [.int (s2.bput f i).rest, .int (s2.bput f i).seed, .int (s2.bput f i).turn] := by cases f <;> rfl
  rw [hset]
  have kk : Keep p H2 (upd H2 a (.lst [.int (s2.bput f i).rest, .int (s2.bput f i).seed, .int (s2.bput f i).turn])) := fun b u nb eb => by
    rw [upd_ne (fun z => nb (.inl ⟨true, by rw [z]; exact ea⟩))]; exact eb
  have hobj : (s2.bput f i).obj = s2.obj ∧ (s2.bput f i).ocls = s2.ocls := by cases f <;> exact ⟨rfl, rfl⟩
  have pk3 : PenOk G p (upd H2 a (.lst [.int (s2.bput f i).rest, .int (s2.bput f i).seed, .int (s2.bput f i).turn])) (s2.bput f i) := by
    refine ⟨fun b kd eb => ?_, fun x c' dx e => ?_, fun b hb => ?_⟩
    · have eab : (a, true) = (b, kd) := Option.some.inj (ea.symm.trans eb)
      cases eab
      exact .inl ⟨rfl, upd_same⟩
    · obtain ⟨vs, h3, hl, h4⟩ := pk2.2.1 x c' dx e
      rw [hobj.1, hobj.2]
      exact ⟨vs, by rw [upd_ne (ne_of h3 hb (fun z => nomatch z))]; exact h3, hl, repL_upd hout _ _ h4⟩
    · by_cases z : b = a
      · subst z; exact ⟨_, upd_same⟩
      · rw [upd_ne z]; exact pk2.2.2 b hb
  exact fin2 σ _ kk pk3 ((e1.keep pk1.at k2).keep pk2.at kk)
end
end Tw

set_option Elab.async false
set_option linter.all false
set_option maxRecDepth 100000
set_option maxHeartbeats 4000000
set_option autoImplicit false
namespace Tw
open PySem L2 PySem.Spec PyProof.Rows
section
variable {K : PySem.W.Frag} {G : Gt} {W : WX} {X : Cx}
/-! ### a tree's type -/
def tyTag : D → Option (String ⊕ Nat)
  | .non => some (.inl "NoneType")
  | .bl _ => some (.inl "bool")
  | .int _ => some (.inl "int")
  | .str _ => some (.inl "str")
  | .lst _ => some (.inl "list")
  | .tup _ => some (.inl "tuple")
  | .ins n _ _ => some (.inr n)
  | _ => none
def tyV (G : Gt) : String ⊕ Nat → Value
  | .inl x => .type x
  | .inr n => .ref (G.cls n)
theorem ty_looks {p : Fm} {pins : List (Addr × Obj)} {σ : L2.St} {H : Hp} {s : Shared} {d : D} {v : V} {u : Value} {t : String ⊕ Nat} (I : Inv X pins σ H s) (r : Rep G p H d v) (rv : RelV v u) (h : tyTag d = some t) : PySem.W.Looks (model X.prog X.w) s.heap (typeOf u) (tyV G t) := by
  cases d <;> cases h
  · obtain rfl : v = .non := r
    obtain rfl : u = Value.none := rv
    exact PySem.W.Looks.of_pure rfl
  · rename_i b
    obtain rfl : v = .bl b := r
    obtain rfl : u = Value.bool b := rv
    exact PySem.W.Looks.of_pure rfl
  · rename_i i
    obtain rfl : v = .int i := r
    obtain ⟨t, rfl⟩ := rv
    exact PySem.W.Looks.of_pure rfl
  · rename_i x
    obtain rfl : v = .str x := r
    obtain ⟨t, rfl⟩ := rv
    exact PySem.W.Looks.of_pure rfl
  · obtain ⟨a, vs, rfl, h0, h1, rs⟩ := r
    obtain rfl : u = Value.ref a := rv
    obtain ⟨_, _, n, _, h2⟩ := (show ObjOk X.prog X.w H s.heap a (.lst vs) from I.hok a _ h1)
    exact fun A Q E s' k q => wpAny_typeOf_ref (k _ _ h2) q
  · obtain ⟨a, vs, rfl, h0, h1, rs⟩ := r
    obtain rfl : u = Value.ref a := rv
    obtain ⟨_, _, _, o, h2, h3, _⟩ := (show ObjOk X.prog X.w H s.heap a (.tup vs) from I.hok a _ h1)
    exact fun A Q E s' k q => wpAny_typeOf_ref (k _ _ h2) (by rw [h3]; exact q)
  · obtain ⟨a, dx, vs, rfl, h0, h1, hl, rs⟩ := r
    obtain rfl : u = Value.ref a := rv
    obtain ⟨ox, od, J⟩ := inst_of I h1
    exact J.type
/-! ### == of an own class -/
/-- an own == : its def; the types that do not come first -/
structure Oeq (K : PySem.W.Frag) (C : Addr) (g : Addr) (fd : FuncData) (ps : List Str) : Prop where
  at_ : PySem.W.findIn K (.ref C) "__eq__" = some (some (.ref g))
  isf : PySem.W.isFn K (.ref g) = true
  b : L2.Binds K fd ps []
def rOeq (G : Gt) (K : PySem.W.Frag) (C : Addr) (sp : Sp) : R2 := fun x y H Q => ∃ a dx fs p d t, x = .ref a ∧ H a = some (.ins C dx fs) ∧ Rep G p H d y ∧ tyTag d = some t ∧ PySem.W.notFirst K C (tyV G t) = true ∧ sp [x, y] H Q (fun _ _ _ => False)
variable {C g : Addr} {qual : Str} {st : Stmt} {fd : FuncData} {ps : List Str} {k n : Nat} {sp : Sp} {md : List D → M D}
theorem op_oeq (hK : X.K = K) (M : Oeq X.K C g fd ps) (F : FnOk X.prog X.w X.K X.mg X.base (L2.CX X.prog X.w) k g fd ps sp) (hr : Room k X.A) (hu : X.A.units < cLine) : OpR X (compareOp .Eq) (rOeq G K C sp) := by
  subst hK
  intro pins s σ H x y v u Q I rx ry h
  obtain ⟨a, dx, fs, p, d, t, rfl, ha, rd, ht, hn, q⟩ := h
  obtain rfl : v = Value.ref a := rx
  obtain ⟨ox, od, J⟩ := inst_of I ha
  obtain ⟨m, F0⟩ := I.fr
  show wpAny _ _ (richCompare .Eq (.ref a) u) _ _ _
  exact PySem.W.cmp_K hu F0 I.ok.mod.kin J (ty_looks I rd ry ht) hn M.at_ M.isf (wpAny_mono (run_fn (us := [.ref a, u]) (vs := [.ref a, y]) (dvs := []) F hr M.b .nil passL I (.cons rfl (.cons ry .nil)) q) (fun _ _ z => back_of z) fun _ _ z => z)
def oeqB (n : Nat) (ok : String ⊕ Nat → Bool) (md : List D → M D) : D → D → M D := fun x y => match x with
  | .ins k _ _ => (match tyTag y with
    | some t => if (k == n && ok t) = true then nox (md [x, y]) else mbad
    | none => mbad)
  | _ => mbad
theorem prim_oeq {ok : String ⊕ Nat → Bool} (hok : ∀ t, ok t = true → PySem.W.notFirst K (G.cls n) (tyV G t) = true) : Prim2 G (rOeq G K (G.cls n) (spM G 2 md)) (oeqB n ok md) := by
  intro W p σ H s x y vx vy Q pk rx ry fin
  unfold oeqB at fin
  cases x <;> first
    | exact False.elim fin
    | skip
  rename_i kx nx xs
  dsimp only at fin
  cases ht : tyTag y with
  | none => rw [ht] at fin; exact False.elim fin
  | some t =>
    rw [ht] at fin
    dsimp only at fin
    split at fin
    · rename_i hk
      rw [Bool.and_eq_true] at hk
      obtain rfl : kx = n := beq_iff_eq.mp hk.1
      obtain ⟨a, dx, vs, rfl, a0, a1, al, as⟩ := id rx
      exact ⟨a, dx, _, p, y, t, rfl, a1, ry, ht, hok t hk.2, rfl, p, [.ins _ nx xs, y], s, ⟨_, _, rfl, rx, _, _, rfl, ry, rfl⟩, pk, FinG.calm fin⟩
    · exact False.elim fin
/-! ### isinstance(x, C) -/
/-- what is asked of the classes whose instances are asked -/
structure Isc (K : PySem.W.Frag) (C : Addr) : Prop where
  c : L2.Cls K C
  h1 : PySem.W.findIn K (.ref C) "__class__" = some (some (.builtin "object.__class__"))
  h2 : PySem.W.specialIn K (.builtin "object.__class__") "__get__" = some (some (.builtin "getset_descriptor.__get__"))
  h3 : PySem.W.takesIn K (.builtin "object.__class__") = some true
  h4 : PySem.W.mroIn K C (.type "object") = some true
def isiO (ans : String ⊕ Nat → String ⊕ Nat → Option Bool) (ds : List D) : M D := match ds with
  | [x, .ty T] => (match tyTag x with
    | some t => (match ans t (.inl T) with
      | some b => mret (.bl b)
      | none => mbad)
    | none => mbad)
  | [x, .cls c] => (match tyTag x with
    | some t => (match ans t (.inr c) with
      | some b => mret (.bl b)
      | none => mbad)
    | none => mbad)
  | _ => mbad
/-- the answers; the classes of which instances are asked -/
structure IsA (G : Gt) (K : PySem.W.Frag) (ans : String ⊕ Nat → String ⊕ Nat → Option Bool) : Prop where
  ok : ∀ t c b, ans t c = some b → PySem.W.kitOne K (tyV G t) (tyV G c) = some b
  isc : ∀ n c b, ans (.inr n) c = some b → Isc K (G.cls n)
theorem tyx_of {ans : String ⊕ Nat → String ⊕ Nat → Option Bool} (A : IsA G K ans) {p : Fm} {H : Hp} {d : D} {v : V} {t c : String ⊕ Nat} {b : Bool} (r : Rep G p H d v) (h : tyTag d = some t) (ha : ans t c = some b) : TyX K H v (tyV G t) := by
  cases d <;> cases h
  · rw [(show v = _ from r)]; exact .base .non
  · rw [(show v = _ from r)]; exact .base (.bl _)
  · rw [(show v = _ from r)]; exact .base (.int _)
  · rw [(show v = _ from r)]; exact .base (.str _)
  · obtain ⟨a, us, rfl, h0, h1, q1⟩ := r; exact .base (.lst h1)
  · obtain ⟨a, us, rfl, h0, h1, q1⟩ := r; exact .base (.tup h1)
  · obtain ⟨a, dx, us, rfl, h0, h1, hl, q1⟩ := r
    have z := A.isc _ _ _ ha
    exact .base (.ins h1 z.c z.h1 z.h2 z.h3 z.h4)
theorem prim_isiO {ans : String ⊕ Nat → String ⊕ Nat → Option Bool} (A : IsA G K ans) : PrimL G (rIsi K) (isiO ans) := by
  intro W p σ H s xs vs Q pk rs fin
  unfold isiO at fin
  split at fin
  · rename_i x T
    obtain ⟨v, _, rfl, rx, w, _, rfl, ry, hz⟩ := rs
    obtain rfl := hz
    obtain rfl : w = .ty T := ry
    cases h : tyTag x with
    | none => rw [h] at fin; exact False.elim fin
    | some t =>
      rw [h] at fin
      dsimp only at fin
      cases ha : ans t (.inl T) with
      | none => rw [ha] at fin; exact False.elim fin
      | some b =>
        rw [ha] at fin
        exact ⟨v, .ty T, tyV G t, .type T, b, rfl, .ty T, tyx_of A rx h ha, A.ok _ _ _ ha, fin _ H Keep.refl pk rfl⟩
  · rename_i x c
    obtain ⟨v, _, rfl, rx, w, _, rfl, ry, hz⟩ := rs
    obtain rfl := hz
    obtain rfl : w = .ref (G.cls c) := ry
    cases h : tyTag x with
    | none => rw [h] at fin; exact False.elim fin
    | some t =>
      rw [h] at fin
      dsimp only at fin
      cases ha : ans t (.inr c) with
      | none => rw [ha] at fin; exact False.elim fin
      | some b =>
        rw [ha] at fin
        exact ⟨v, _, tyV G t, .ref (G.cls c), b, rfl, .own _, tyx_of A rx h ha, A.ok _ _ _ ha, fin _ H Keep.refl pk rfl⟩
  · exact False.elim fin
/-! ### while -/
variable {c : Expr} {body : List Stmt} {A1 : TT} {f1 : Loc → M Bool} {tb : TS} {mb : MS} {pos : Pos}
def swN (f1 : Loc → M Bool) (mb : MS) : Nat → MS
  | 0 => fun _ _ => .bad
  | n + 1 => fun ρ s => sof (f1 ρ s) ρ fun k s1 => if k = true then (match mb ρ s1 with
    | .nx ρ2 s2 => swN f1 mb n ρ2 s2
    | .ct ρ2 s2 => swN f1 mb n ρ2 s2
    | .bk ρ2 s2 => .nx ρ2 s2
    | .ret d s2 => .ret d s2
    | .exc c ns xs ρ2 s2 => .exc c ns xs ρ2 s2
    | .bad => .bad) else .nx ρ s1
open Classical in
/-- the loop's outcome, after as many turns as it takes -/
noncomputable def swhile (f1 : Loc → M Bool) (mb : MS) : MS := fun ρ s => if h : ∃ n, swN f1 mb n ρ s ≠ .bad then swN f1 mb (choose h) ρ s else .bad
theorem swN_up (n : Nat) : ∀ (ρ : Loc) (s : Pen), swN f1 mb n ρ s ≠ .bad → swN f1 mb (n + 1) ρ s = swN f1 mb n ρ s := by
  induction n with
  | zero => intro ρ s h; exact absurd rfl h
  | succ n ih =>
    intro ρ s h
    unfold swN at h ⊢
    unfold sof at h ⊢
    cases q : f1 ρ s with
    | bad => rfl
    | exc c ns xs s1 => rfl
    | ok k s1 =>
      rw [q] at h
      dsimp only at h ⊢
      cases k with
      | false => rfl
      | true =>
        rw [if_pos rfl] at h ⊢
        rw [if_pos rfl]
        cases q2 : mb ρ s1 with
        | nx ρ2 s2 => rw [q2] at h; exact ih ρ2 s2 h
        | ct ρ2 s2 => rw [q2] at h; exact ih ρ2 s2 h
        | bk ρ2 s2 => rfl
        | ret d s2 => rfl
        | exc c ns xs ρ2 s2 => rfl
        | bad => rfl
theorem swN_le {n m : Nat} (hnm : n ≤ m) {ρ : Loc} {s : Pen} (h : swN f1 mb n ρ s ≠ .bad) : swN f1 mb m ρ s = swN f1 mb n ρ s := by
  induction hnm with
  | refl => rfl
  | step _ ih => exact (swN_up _ ρ s (by rw [ih]; exact h)).trans ih
theorem swhile_eq {n : Nat} {ρ : Loc} {s : Pen} {o : OutS} (h : swN f1 mb n ρ s = o) (ho : o ≠ .bad) : swhile f1 mb ρ s = o := by
  unfold swhile
  have hx : ∃ n, swN f1 mb n ρ s ≠ .bad := ⟨n, by rw [h]; exact ho⟩
  rw [dif_pos hx]
  have h2 := Classical.choose_spec hx
  rcases Nat.le_total (Classical.choose hx) n with z | z
  · exact (swN_le z h2).symm.trans h
  · exact (swN_le z (by rw [h]; exact ho)).trans h
theorem run_while (hc : RunG G W RelB A1 f1) (hb : RunS G W tb mb) : RunS G W (tWhile A1 tb) (swhile f1 mb) := by
  intro p σ H ρ s Z e pk fin
  have hN : ∃ n, FinS G W p H Z (swN f1 mb n ρ s) := by
    unfold swhile at fin
    by_cases hx : ∃ n, swN f1 mb n ρ s ≠ .bad
    · rw [dif_pos hx] at fin; exact ⟨_, fin⟩
    · rw [dif_neg hx] at fin; exact False.elim fin
  obtain ⟨n, fin⟩ := hN
  refine ⟨fun m σ' H' => ∃ ρ' s', EnvOk G p H' σ' ρ' ∧ PenOk G p H' s' ∧ FinS G W p H' Z (swN f1 mb m ρ' s'), ⟨n, ρ, s, e, pk, fin⟩, ?_⟩
  rintro m σ' H' ⟨ρ', s', e', pk', fin'⟩
  cases m with
  | zero => exact False.elim fin'
  | succ m =>
    unfold swN at fin'
    refine hc p σ' H' ρ' s' _ e' pk' (FinS.step fin' (fun H1 s1 k1 pk1 => e'.keep pk'.at k1) fun x s1 b H1 k1 pk1 rx fin1 => ?_)
    obtain rfl : b = x := rx
    have e1 := e'.keep pk'.at k1
    cases b with
    | false =>
      rw [if_neg Bool.false_ne_true] at fin1 ⊢
      exact fin1 σ' H1 Keep.refl pk1 e1
    | true =>
      rw [if_pos rfl] at fin1 ⊢
      refine ⟨fun σ2 H2 => ∃ ρ2 s2, EnvOk G p H2 σ2 ρ2 ∧ PenOk G p H2 s2 ∧ FinS G W p H2 Z (swN f1 mb m ρ2 s2), fun σ2 H2 h => ⟨m, Nat.lt_succ_self m, h⟩, ?_⟩
      refine hb p σ' H1 ρ' s1 _ e1 pk1 ?_
      cases q : mb ρ' s1 with
      | nx ρ2 s2 => rw [q] at fin1; exact fun σ3 H3 k3 pk3 e3 => ⟨ρ2, s2, e3, pk3, FinS.keep k3 fin1⟩
      | ct ρ2 s2 => rw [q] at fin1; exact fun σ3 H3 k3 pk3 e3 => ⟨ρ2, s2, e3, pk3, FinS.keep k3 fin1⟩
      | bk ρ2 s2 => rw [q] at fin1; exact fin1
      | ret d s2 => rw [q] at fin1; exact fin1
      | exc c ns xs ρ2 s2 => rw [q] at fin1; exact fin1
      | bad => rw [q] at fin1; exact fin1
theorem ds_while (hp : PassesOwn (model X.prog X.w) X.A X.env X.xe) (hc : DT G X W c A1 f1) (hb : DSs G X W body tb mb) : DS G X W (.While c body [] pos) (tWhile A1 tb) (swhile f1 mb) := ⟨ps_while hp hc.pt hb.ps, run_while hc.run hb.run⟩
end
end Tw

set_option Elab.async false
set_option linter.all false
set_option maxRecDepth 100000
set_option maxHeartbeats 4000000
set_option autoImplicit false
namespace Tw
open PySem L2 PySem.Spec PyProof.Rows
section
variable {K : PySem.W.Frag} {G : Gt} {W : WX} {X : Cx}
variable {a b c e o : Expr} {es : List Expr} {ta te to tv : TE} {fa fe fo fv : Loc → M D} {pos pos' apos : Pos} {tA : TA} {fA : Loc → M (List D)} {f m : Str}
/-! ### cls(..) : a class called by a local name -/
def tMakeV (C : Addr) (sp : Sp) (dvs : List V) (E : L2.St → XK) (tn : TE) (t : TA) : TE := fun σ H Q => tn σ H fun v H0 => v = .ref C ∧ tMakeS C sp dvs E t σ H0 Q
theorem pe_makeV {k : Nat} {C g : Addr} {fd : FuncData} {ps : List Str} {sp : Sp} {dvs : List V} {dl : List Value} {E : L2.St → XK} {x : Str} {p : Pos} {t : TA} {tn : TE} (M : L2.Mk X.K C g) (F : FnOk X.prog X.w X.K X.mg X.base (L2.CX X.prog X.w) k g fd ps sp) (hr : Room (k + 1) X.A) (hn : PE X (.Name x p) tn) (hb : L2.Binds X.K fd ps dl) (hd : Vals dvs dl) (hx : ∀ σ, PassesAt (L2.CX X.prog X.w) X σ (E σ))
    (ha : PA X (e :: es) t) (he : starEach (e :: es) X.env = (false, eval e X.env) :: starEach es X.env := by rfl) (hpl : (backTo pos (starEach es X.env)).any (·.1) = false := by rfl) :
    PE X (.Call (.Name x p) (e :: es) [] pos) (tMakeV C sp dvs E tn t) := by
  refine ⟨fun pins s0 σ H0 Q I0 h => ?_⟩
  refine wpAny_Call_Name_kw (thn (hn.run pins s0 σ H0 _ I0 h) fun u0 s ⟨v0, H, I, rv0, ev0, h⟩ => ?_)
  subst ev0
  obtain rfl : u0 = Value.ref C := rv0
  refine PySem.W.callWith_K (h₀ := X.base) I.ok.mod.kin M.kp (thn (ha.run pos pins s σ H _ I h) fun us s1 ⟨vs, H1, I1, r, q⟩ => ⟨I1.kIn, ?_⟩) he hpl
  have hq := q (s1.heap.objs.size + 1) s1.heap.objs.size (I1.hok.fresh (Nat.le_succ _)) (I1.hok.fresh (Nat.le_refl _)) (Nat.ne_of_lt (Nat.lt_succ_self _))
  have I2 := Inv.made (C := C) I1
  have r2 : Vals (V.ref (s1.heap.objs.size + 1) :: (vs ++ dvs)) (Value.ref (s1.heap.objs.size + 1) :: (us ++ dl)) := .cons rfl (r.append hd)
  have hl : (Value.ref (s1.heap.objs.size + 1) :: us ++ dl).length = ps.length := by
    have e := r2.length
    rw [F.len _ _ _ _ hq] at e
    exact e.symm
  refine wpAny_call (make_map (f := g) I1.kIn M.makes M.init (beq_iff_eq.mp M.fn) (codeAny_mono (F.run _ X.stack _ _ ⟨Value.ref (s1.heap.objs.size + 1) :: us, []⟩ (Value.ref (s1.heap.objs.size + 1) :: (us ++ dl)) _ _ (E σ) (hr.make C us [])
    (I2.env0.make C us []) (hb _ (Value.ref (s1.heap.objs.size + 1) :: us) I2.kIn hl) r2 hq) fun r s' hq' => ?_))
  cases r with
  | error er => exact hx σ pins _ _ er s' I2 hq'
  | ok fl =>
    cases fl with
    | ret u =>
      obtain ⟨v, H', I3, rv, ev, q3⟩ := I2.after hq'
      subst ev
      exact ⟨rv, ⟨V.ref (s1.heap.objs.size + 1), H', I3, rfl, q3⟩⟩
    | next => exact False.elim hq'
    | brk => exact False.elim hq'
    | cont => exact False.elim hq'
def kMkV (c : Nat) (m : List D → M D) (dd : List D) (fn : Loc → M D) (fA : Loc → M (List D)) : Loc → M D := fun ρ => mbind (fn ρ) fun d => match d with
  | .cls k => if (k == c) = true then mbind (fA ρ) fun ds => mkD c m (ds ++ dd) else mbad
  | _ => mbad
theorem x_makeV {k n : Nat} {c : Nat} {g : Addr} {fd : FuncData} {ps : List Str} {dd : List D} {dvs : List V} {dl : List Value} {m : List D → M D} {x y : Str} {p : Pos} {tn : TE} {fn : Loc → M D} (M : MkC X.K X.mg y (G.cls c) g fd ps dl) (F : FnOk X.prog X.w X.K X.mg X.base (L2.CX X.prog X.w) k g fd ps (spM G (n + 1) m)) (hr : Room (k + 1) X.A) (tk : Takes X W) (hd : Vals dvs dl) (hdd : ∀ p H, RepL G p H dd dvs)
    (hn : DE G X W (.Name x p) tn fn) (ha : DA G X W (e :: es) tA fA) {j : Nat} (hl : LenA fA j) (hj : j + dd.length = n) (he : starEach (e :: es) X.env = (false, eval e X.env) :: starEach es X.env := by rfl) (hpl : (backTo pos (starEach es X.env)).any (·.1) = false := by rfl) :
    DE G X W (.Call (.Name x p) (e :: es) [] pos) (tMakeV (G.cls c) (spM G (n + 1) m) dvs (WE W) tn tA) (kMkV c m dd fn fA) := by
  refine ⟨pe_makeV M.made F hr hn.pe M.bd hd (fun σ => passAt tk σ) ha.pa he hpl, fun p σ H ρ s Q e pk fin => ?_⟩
  refine hn.run p σ H ρ s _ e pk (FinG.step (RA := RelE G) fin fun d s1 v H1 k1 pk1 rd fin1 => ?_)
  cases d <;> try (exact False.elim fin1)
  rename_i kk
  dsimp only at fin1
  by_cases hk : (kk == c) = true
  · rw [if_pos hk] at fin1
    obtain rfl : kk = c := beq_iff_eq.mp hk
    refine ⟨rd, ?_⟩
    have fin2 : FinG G W (RelE G) p σ H1 Q (obind (fA ρ s1) fun ds => mkD kk m (ds ++ dd)) := fin1
    refine ha.run p σ H1 ρ s1 _ (e.keep pk.at k1) pk1 ?_
    cases h : fA ρ s1 with
    | ok ds s2 =>
      rw [h] at fin2
      intro vs H2 k2 pk2 rs x dx hx hdx hne
      exact make_ok pk2 (repL_app rs (hdd p H2)) (by rw [List.length_append, hl ρ s1 ds s2 h]; exact hj) hx hdx hne (FinG.keep k2 fin2)
    | exc c ns xs s2 => rw [h] at fin2; exact fin2
    | bad => rw [h] at fin2; exact fin2
  · rw [if_neg hk] at fin1; exact False.elim fin1

/-! ### raise C(x) of an own error whose __init__ keeps one thing, or two -/
variable {P : Program} {w : World} {mg : Str → Option Value} {base : Heap}
def spX1 (C : Addr) (f : Str) : Sp := fun vs H Q _ => ∃ a v, vs = [.ref a, v] ∧ H a = some (exo a C none) ∧ ∀ dx, H dx = none → dx ≠ a → Q .non (upd (upd H dx (exd dx [(f, v)])) a (exo a C (some dx)))
theorem ok_x1 {qual : Str} {st : Stmt} {g C : Addr} {fd : FuncData} {pn : Str} {p1 p2 p3 pos : Pos} (F : Fun K "__init__" qual st g fd) (S : FnScope ["self", pn] ["self", pn] (defScope st)) (hb : defBody st = [.Assign [.Attribute (.Name "self" p1) f p2] (.Name pn p3) pos])
    (T : OexC K C) (hf : PySem.W.findIn K (.ref C) f = some none) (hd : (pn == ("__debug__" : Str)) = false := by decide) (hcd : (pn == ("__classdict__" : Str)) = false := by decide) : FnOk P w K mg base (L2.CX P w) 1 g fd ["self", pn] (spX1 C f) := by
  refine F.okX S (fun vs H Q E h => by obtain ⟨a, v, rfl, _⟩ := h; rfl) fun cdv A outer s H vs Q E hr h => ?_
  obtain ⟨a, v, rfl, ha, q⟩ := h
  have vis : ∀ y : Str, y ∈ ([("self" : Str), pn] : List Str) → Vis (defScope st) y := fun y hy => (S.par y hy).elim (fun z => .inl z) (fun z => .inr (.inl z))
  refine ⟨_, by rw [hb]; exact pss_one (ps_ost (pe_var (i := 0) rfl (vis "self" (by simp))) (pe_var (i := 1) rfl (vis pn (by simp)) hd hcd)), ?_⟩
  exact ⟨v, rfl, .ref a, rfl, a, C, rfl, T, hf, .inl ⟨ha, q⟩⟩
def spX2 (C : Addr) (f f' : Str) : Sp := fun vs H Q _ => ∃ a v u, vs = [.ref a, v, u] ∧ H a = some (exo a C none) ∧ ∀ dx, H dx = none → dx ≠ a → Q .non (upd (upd (upd H dx (exd dx [(f, v)])) a (exo a C (some dx))) dx (exd dx [(f', u), (f, v)]))
theorem ok_x2 {qual : Str} {st : Stmt} {g C : Addr} {fd : FuncData} {f' pn pn' : Str} {p1 p2 p3 p1' p2' p3' pos pos' : Pos} (F : Fun K "__init__" qual st g fd) (S : FnScope ["self", pn, pn'] ["self", pn, pn'] (defScope st))
    (hb : defBody st = [.Assign [.Attribute (.Name "self" p1) f p2] (.Name pn p3) pos, .Assign [.Attribute (.Name "self" p1') f' p2'] (.Name pn' p3') pos'])
    (T : OexC K C) (hf : PySem.W.findIn K (.ref C) f = some none) (hf' : PySem.W.findIn K (.ref C) f' = some none) (hd : (pn == ("__debug__" : Str)) = false := by decide) (hcd : (pn == ("__classdict__" : Str)) = false := by decide) (hd' : (pn' == ("__debug__" : Str)) = false := by decide) (hcd' : (pn' == ("__classdict__" : Str)) = false := by decide) :
    FnOk P w K mg base (L2.CX P w) 1 g fd ["self", pn, pn'] (spX2 C f f') := by
  refine F.okX S (fun vs H Q E h => by obtain ⟨a, v, u, rfl, _⟩ := h; rfl) fun cdv A outer s H vs Q E hr h => ?_
  obtain ⟨a, v, u, rfl, ha, q⟩ := h
  have vis : ∀ y : Str, y ∈ ([("self" : Str), pn, pn'] : List Str) → Vis (defScope st) y := fun y hy => (S.par y hy).elim (fun z => .inl z) (fun z => .inr (.inl z))
  refine ⟨_, by rw [hb]; exact pss_cons (ps_ost (pe_var (i := 0) rfl (vis "self" (by simp))) (pe_var (i := 1) rfl (vis pn (by simp)) hd hcd)) (pss_one (ps_ost (pe_var (i := 0) rfl (vis "self" (by simp))) (pe_var (i := 2) rfl (vis pn' (by simp)) hd' hcd'))), ?_⟩
  refine ⟨v, rfl, .ref a, rfl, a, C, rfl, T, hf, .inl ⟨ha, fun dx hdx hne => ?_⟩⟩
  exact ⟨u, rfl, .ref a, rfl, a, C, rfl, T, hf', .inr ⟨dx, [(f, v)], upd_same, by rw [upd_ne hne, upd_same], by simp, q dx hdx hne⟩⟩
/-- an own error whose __init__ takes arguments -/
structure ErrN (K : PySem.W.Frag) (mg : Str → Option Value) (x : Str) (C fI : Addr) (st : Stmt) (qual : Str) (fd : FuncData) (ps : List Str) : Prop where
  ox : OexC K C
  fi : PySem.W.findIn K (.ref C) "__init__" = some (some (.ref fI))
  ti : PySem.W.typeIn K (.ref fI) = some (.type "function")
  fn : Fun K "__init__" qual st fI fd
  bd : L2.Binds K fd ps []
  m : mg x = some (.ref C)
def zRaiseN (c : Nat) (ns : List Str) (fA : Loc → M (List D)) : MS := fun ρ s => sof (fA ρ s) ρ fun ds s' => if decide (ds.length = ns.length) = true then .exc c ns ds ρ s' else .bad
/-- the heap behind the making: all stands, the dict is new -/
theorem exc_heap {H1 : Hp} {a d : Addr} {o1 o2 o3 : HO} (ha : H1 a = none) (hd : upd H1 a o1 d = none) (hne : d ≠ a) {H2 : Hp} (h2 : ∀ b, b ≠ a → b ≠ d → H2 b = H1 b) : (∀ b o, H1 b = some o → upd (del H2 a) d o3 b = some o) ∧ H1 d = none := by
  have hd1 : H1 d = none := by rw [upd_ne hne] at hd; exact hd
  refine ⟨fun b o e => ?_, hd1⟩
  have n1 : b ≠ a := ne_of_none e ha
  have n2 : b ≠ d := ne_of_none e hd1
  rw [upd_ne n2, del_ne n1, h2 b n1 n2]
  exact e
theorem z_raise1 {cn : Nat} {x : Str} {fI : Addr} {stI : Stmt} {qual : Str} {fd : FuncData} {pn : Str} {p0 : Pos} (hc : X.calm = true) (tk : Takes X W) (E : ErrN X.K X.mg x (G.cls cn) fI stI qual fd ["self", pn])
    (F : FnOk X.prog X.w X.K X.mg X.base (L2.CX X.prog X.w) 1 fI fd ["self", pn] (spX1 (G.cls cn) f)) (hr : Room 2 X.A) (ha : DA G X W [e] tA fA) (hl : LenA fA 1) (hg : Gl X x := by rfl) (hdb : (x == ("__debug__" : Str)) = false := by decide) (he : starEach [e] X.env = [(false, eval e X.env)] := by rfl) (hpl : (backTo pos' (starEach [] X.env)).any (·.1) = false := by rfl) :
    DS G X W (.Raise (some (.Call (.Name x p0) [e] [] pos')) none pos) (fun _ σ H => tMkO (G.cls cn) (spX1 (G.cls cn) f) [] tA σ H (fun cls d H' => W cls d σ H')) (zRaiseN cn [f] fA) := by
  refine ⟨ps_raise hc tk (pmk_oex E.ox E.fi E.ti F hr E.bd .nil passL hg E.m ha.pa hdb he hpl), fun p σ H ρ s Z e pk fin => ?_⟩
  refine ha.run p σ H ρ s _ e pk (FinS.step fin (fun H1 s1 k1 pk1 => e.keep pk.at k1) fun ds s1 vs H1 k1 pk1 rs fin1 => ?_)
  by_cases hdn : ¬ ds.length = [f].length
  · rw [if_neg (by simpa using hdn)] at fin1
    exact False.elim fin1
  have hds0 : ds.length = [f].length := Decidable.not_not.mp hdn
  rw [if_pos (decide_eq_true hds0)] at fin1
  have hds : ds.length = 1 := hds0
  match ds, hds, rs, fin1 with
  | [d0], _, rs, fin1 =>
    obtain ⟨v, _, rfl, rv, hz⟩ := rs
    obtain rfl := hz
    refine ⟨by simp, fun a hna => ⟨a, v, rfl, upd_same, fun dx hdx hne => ?_⟩⟩
    obtain ⟨hk, hd1⟩ := exc_heap (H1 := H1) (a := a) (d := dx) (o1 := exo a (G.cls cn) none) (o2 := exo a (G.cls cn) none) (o3 := .xd [(f, v)]) hna hdx hne (H2 := upd (upd (upd H1 a (exo a (G.cls cn) none)) dx (exd dx [(f, v)])) a (exo a (G.cls cn) (some dx))) (fun b n1 n2 => by rw [upd_ne n1, upd_ne n2, upd_ne n1])
    refine ⟨rfl, dx, [(f, v)], upd_same, by rw [upd_ne hne, upd_same], hd1, ?_⟩
    have kp : Keep p H1 (upd (del (upd (upd (upd H1 a (exo a (G.cls cn) none)) dx (exd dx [(f, v)])) a (exo a (G.cls cn) (some dx))) a) dx (.xd [(f, v)])) := fun b o _ h => hk b o h
    refine fin1 (some dx) σ _ kp (pk1.mono hk) ((e.keep pk.at k1).keep pk1.at kp) ⟨[v], ⟨v, [], rfl, rep_keep pk1.at kp _ _ rv, rfl⟩, .inr ⟨dx, _, by simp, rfl, pk1.free hd1, upd_same, fun i f' v' h1 h2 => ?_⟩⟩
    match i, h1, h2 with
    | 0, h1, h2 =>
      cases h1; cases h2
      simp [List.lookup]
theorem z_raise2 {cn : Nat} {x : Str} {fI : Addr} {stI : Stmt} {qual : Str} {fd : FuncData} {f' pn pn' : Str} {p0 : Pos} {e2 : Expr} (hc : X.calm = true) (tk : Takes X W) (E : ErrN X.K X.mg x (G.cls cn) fI stI qual fd ["self", pn, pn'])
    (F : FnOk X.prog X.w X.K X.mg X.base (L2.CX X.prog X.w) 1 fI fd ["self", pn, pn'] (spX2 (G.cls cn) f f')) (hr : Room 2 X.A) (ha : DA G X W [e, e2] tA fA) (hl : LenA fA 2) (hg : Gl X x := by rfl) (hdb : (x == ("__debug__" : Str)) = false := by decide) (hff : f ≠ f') (he : starEach [e, e2] X.env = (false, eval e X.env) :: starEach [e2] X.env := by rfl) (hpl : (backTo pos' (starEach [e2] X.env)).any (·.1) = false := by rfl) :
    DS G X W (.Raise (some (.Call (.Name x p0) [e, e2] [] pos')) none pos) (fun _ σ H => tMkO (G.cls cn) (spX2 (G.cls cn) f f') [] tA σ H (fun cls d H' => W cls d σ H')) (zRaiseN cn [f, f'] fA) := by
  refine ⟨ps_raise hc tk (pmk_oex E.ox E.fi E.ti F hr E.bd .nil passL hg E.m ha.pa hdb he hpl), fun p σ H ρ s Z e pk fin => ?_⟩
  refine ha.run p σ H ρ s _ e pk (FinS.step fin (fun H1 s1 k1 pk1 => e.keep pk.at k1) fun ds s1 vs H1 k1 pk1 rs fin1 => ?_)
  by_cases hdn : ¬ ds.length = [f, f'].length
  · rw [if_neg (by simpa using hdn)] at fin1
    exact False.elim fin1
  have hds0 : ds.length = [f, f'].length := Decidable.not_not.mp hdn
  rw [if_pos (decide_eq_true hds0)] at fin1
  have hds : ds.length = 2 := hds0
  match ds, hds, rs, fin1 with
  | [d0, d1], _, rs, fin1 =>
    obtain ⟨v, _, rfl, rv, u, _, rfl, ru, hz⟩ := rs
    obtain rfl := hz
    refine ⟨by simp, fun a hna => ⟨a, v, u, rfl, upd_same, fun dx hdx hne => ?_⟩⟩
    obtain ⟨hk, hd1⟩ := exc_heap (H1 := H1) (a := a) (d := dx) (o1 := exo a (G.cls cn) none) (o2 := exo a (G.cls cn) none) (o3 := .xd [(f', u), (f, v)]) hna hdx hne (H2 := upd (upd (upd (upd H1 a (exo a (G.cls cn) none)) dx (exd dx [(f, v)])) a (exo a (G.cls cn) (some dx))) dx (exd dx [(f', u), (f, v)])) (fun b n1 n2 => by rw [upd_ne n2, upd_ne n1, upd_ne n2, upd_ne n1])
    refine ⟨rfl, dx, [(f', u), (f, v)], by rw [upd_ne (Ne.symm hne), upd_same], upd_same, hd1, ?_⟩
    have kp : Keep p H1 (upd (del (upd (upd (upd (upd H1 a (exo a (G.cls cn) none)) dx (exd dx [(f, v)])) a (exo a (G.cls cn) (some dx))) dx (exd dx [(f', u), (f, v)])) a) dx (.xd [(f', u), (f, v)])) := fun b o _ h => hk b o h
    refine fin1 (some dx) σ _ kp (pk1.mono hk) ((e.keep pk.at k1).keep pk1.at kp) ⟨[v, u], ⟨v, [u], rfl, rep_keep pk1.at kp _ _ rv, u, [], rfl, rep_keep pk1.at kp _ _ ru, rfl⟩, .inr ⟨dx, _, by simp, rfl, pk1.free hd1, upd_same, fun i g' v' h1 h2 => ?_⟩⟩
    match i, h1, h2 with
    | 0, h1, h2 =>
      cases h1; cases h2
      have : (f == f') = false := by simpa using hff
      simp [List.lookup, this]
    | 1, h1, h2 =>
      cases h1; cases h2
      simp [List.lookup]
end
end Tw

set_option Elab.async false
set_option linter.all false
set_option maxRecDepth 100000
set_option maxHeartbeats 4000000
set_option autoImplicit false
namespace Tw
open PySem L2 PySem.Spec PyProof.Rows
section
variable {K : PySem.W.Frag} {G : Gt} {W : WX} {X : Cx}
variable {a b c e o i : Expr} {es : List Expr} {ta te to tv ti : TE} {fa fe fo fv fi : Loc → M D} {pos pos' apos : Pos} {tA : TA} {fA : Loc → M (List D)} {f m : Str}
/-! ### x = [..]; x[i] = e : a list that nobody else holds -/
def sLset (n : Nat) (fA : Loc → M (List D)) (fi fv : Loc → M D) : MS := fun ρ s => sof (fA ρ s) ρ fun ds s1 => if (decide (ds.length ≤ 100000) && decide (n < ρ.length)) = true then
    sof (nox (fv (ρ.set n none)) s1) ρ fun d s2 => sof (nox (fi (ρ.set n none)) s2) ρ fun k s3 => (match k with
      | .int k => (match ixN ds.length k with
        | some j => .nx (ρ.set n (some (.lst (ds.set j d)))) s3
        | none => .bad)
      | _ => .bad)
  else .bad
theorem FinS.calm {α β : Type} {R : Fm → Hp → α → β → Prop} {p q : Fm} {σ : L2.St} {H Hq : Hp} {ρ : Loc} {Z : Ends} {mm : M α} {s : Pen} {k : α → Pen → OutS} {Q : β → Hp → Prop} (fin : FinS G W p H Z (sof (nox mm s) ρ k))
    (hb : ∀ a s1 b H1, Keep q Hq H1 → PenOk G q H1 s1 → R q H1 a b → FinS G W p H Z (k a s1) → Q b H1) : FinG G W R q σ Hq Q (mm s) := by
  unfold nox at fin
  cases h : mm s with
  | ok a s1 => rw [h] at fin; exact fun b H1 k1 pk1 r => hb a s1 b H1 k1 pk1 r fin
  | exc c ns xs s1 => rw [h] at fin; exact False.elim fin
  | bad => rw [h] at fin; exact False.elim fin
theorem EnvOk.hide {p : Fm} {H : Hp} {σ : L2.St} {ρ : Loc} {n : Nat} {v : V} (e : EnvOk G p H σ ρ) : EnvOk G p H (σ.set n (some v)) (ρ.set n none) := by
  refine ⟨by simp [e.1], fun j x hx => ?_⟩
  rw [List.getElem?_set] at hx
  by_cases hij : n = j
  · subst hij
    simp only [if_true] at hx
    split at hx <;> cases hx
  · rw [if_neg hij] at hx
    obtain ⟨u, h1, h2⟩ := e.2 j x hx
    exact ⟨u, by rw [List.getElem?_set, if_neg hij]; exact h1, h2⟩
theorem repL_set {p : Fm} {H : Hp} : ∀ {ds : List D} {vs : List V} {j : Nat} {d : D} {v : V}, RepL G p H ds vs → Rep G p H d v → RepL G p H (ds.set j d) (vs.set j v)
  | [], vs, j, d, v, q, _ => by rw [(show vs = [] from q)]; rfl
  | x :: ds, vs, 0, d, v, q, r => by
    obtain ⟨u, us, rfl, _, q2⟩ := q
    exact ⟨v, us, rfl, r, q2⟩
  | x :: ds, vs, j + 1, d, v, q, r => by
    obtain ⟨u, us, rfl, q1, q2⟩ := q
    exact ⟨u, us.set j v, rfl, q1, repL_set q2 r⟩
theorem run_lset {n : Nat} (ha : RunG G W (RelA G) tA fA) (hi : RunG G W (RelE G) ti fi) (hv : RunG G W (RelE G) tv fv) :
    RunS G W (tSeq (tAsg (tLst tA) (gName n)) (tAsg tv (gSub (tVar n) ti rSetL))) (sLset n fA fi fv) := by
  intro p σ H ρ s Z e pk fin
  refine ha p σ H ρ s _ e pk (FinS.step fin (fun H1 s1 k1 pk1 => e.keep pk.at k1) fun ds s1 vs H1 k1 pk1 rs fin1 => ?_)
  by_cases hln : ¬ (decide (ds.length ≤ 100000) && decide (n < ρ.length)) = true
  · rw [if_neg hln] at fin1; exact False.elim fin1
  have hln' : (decide (ds.length ≤ 100000) && decide (n < ρ.length)) = true := Decidable.not_not.mp hln
  rw [if_pos hln'] at fin1
  rw [Bool.and_eq_true] at hln'
  have hl : ds.length ≤ 100000 := of_decide_eq_true hln'.1
  have hn : n < σ.length := by rw [e.1]; exact of_decide_eq_true hln'.2
  refine ⟨by rw [← repL_len rs]; exact Nat.le_trans hl (by decide), fun L hL => ?_⟩
  have wd : Wider p (p.add L) H1 := wider_add hL
  have hnm : ¬ (p.add L).mut L := pk1.nomut hL
  have ho : (p.add L).out L := .inr rfl
  have e1 : EnvOk G (p.add L) (upd H1 L (.lst vs)) (σ.set n (some (.ref L))) (ρ.set n none) := (((e.keep pk.at k1).out wd).keep trivial (Keep.new hL)).hide
  have rs1 : RepL G (p.add L) (upd H1 L (.lst vs)) ds vs := repL_keep trivial (Keep.new hL) _ _ (repL_out wd.1 wd.2.1 wd.2.2 _ _ rs)
  refine hv (p.add L) _ _ (ρ.set n none) s1 _ e1 (pk1.add hL) (FinS.calm (q := p.add L) fin1 fun d s2 v H2 k2 pk2 rd fin2 => ?_)
  have hL2 : H2 L = some (.lst vs) := k2 _ _ hnm upd_same
  have e2 := e1.keep trivial k2
  refine ⟨.ref L, by rw [List.getElem?_set]; simp [hn], ?_⟩
  refine hi (p.add L) _ _ (ρ.set n none) s2 _ e2 pk2 (FinS.calm (q := p.add L) fin2 fun kd s3 kv H3 k3 pk3 rk fin3 => ?_)
  cases kd <;> first
    | exact False.elim fin3
    | skip
  rename_i k
  obtain rfl : kv = .int k := rk
  dsimp only at fin3
  cases hj : ixN ds.length k with
  | none => rw [hj] at fin3; exact False.elim fin3
  | some j =>
    rw [hj] at fin3
    have hL3 : H3 L = some (.lst vs) := k3 _ _ hnm hL2
    refine ⟨L, vs, k, j, rfl, rfl, hL3, by rw [← repL_len rs]; exact hj, ?_⟩
    have rs3 : RepL G (p.add L) H3 ds vs := repL_keep trivial (k2.trans k3) _ _ rs1
    have rd3 : Rep G (p.add L) H3 d v := rep_keep trivial k3 _ _ rd
    have back : ∀ a o, (upd H3 L (.lst (vs.set j v))) a = some o → ¬ (p.add L).out a → ¬ p.out a := fun a o _ h z => h (.inl z)
    have rs4 : RepL G p (upd H3 L (.lst (vs.set j v))) (ds.set j d) (vs.set j v) := repL_out (p := p.add L) (q := p) rfl rfl back _ _ (repL_upd ho _ _ (repL_set rs3 rd3))
    have e4 : EnvOk G p (upd H3 L (.lst (vs.set j v))) (σ.set n (some (.ref L))) (ρ.set n none) := ((e2.keep trivial k3).upd ho).out ⟨rfl, rfl, back⟩
    have e5 := e4.set (i := n) (d := .lst (ds.set j d)) (v := .ref L) ⟨L, _, rfl, pk1.free hL, upd_same, rs4⟩
    rw [List.set_set, List.set_set] at e5
    have kk : Keep p H1 (upd H3 L (.lst (vs.set j v))) := fun a o nm h => by
      rw [upd_ne (ne_of_none h hL)]
      exact k3 a o nm (k2 a o nm (by rw [upd_ne (ne_of_none h hL)]; exact h))
    exact fin3 _ _ kk (pk3.upd ho hnm).sub e5
theorem dss_lset {n : Nat} {x : Str} {rest : List Stmt} {t : TS} {mr : MS} {px px' p1 p2 : Pos} (hN : X.N.Nodup) (hx : X.N[n]? = some x) (hs1 : DS G X W (.Assign [.Name x px] (.List es pos) p1) (tAsg (tLst tA) (gName n)) (sasg (fun ρ => mbind (fA ρ) lstD) (gnm n))) (ha : DA G X W es tA fA)
    (hnm : PE X (.Name x px') (tVar n)) (hi : DE G X W i ti fi) (hv : DE G X W e tv fv) (hr : DSs G X W rest t mr)
    (has : ∀ v, assign (.Subscript (.Name x px') i pos') X.env v = (do
      let ov ← holding [v] (eval (.Name x px') X.env)
      let iv ← holding [v, ov] (eval i X.env)
      standAt pos'
      holding [v, ov, iv] (setItem ov iv v)
      release [v, ov, iv] []) := by intro _; rfl)
    (hs : swapsWithSole [.Subscript (.Name x px') i pos'] e p2.line X.env = pure false := by rfl) (hw : swappedStores [.Subscript (.Name x px') i pos'] e X.env = pure none := by rfl)
    (h1 : (assignEach [.Subscript (.Name x px') i pos'] X.env).map (·.2) = [assign (.Subscript (.Name x px') i pos') X.env] := by rfl) :
    DSs G X W (.Assign [.Name x px] (.List es pos) p1 :: .Assign [.Subscript (.Name x px') i pos'] e p2 :: rest) (tSeq (tAsg (tLst tA) (gName n)) (tSeq (tAsg tv (gSub (tVar n) ti rSetL)) t)) (sseq (sLset n fA fi fv) mr) := by
  refine ⟨pss_cons hs1.ps (pss_cons (ps_asg hv.pe (pg_sub hnm hi.pe set_list has) hs hw h1) hr.ps), ?_⟩
  intro p σ H ρ s Z en pk fin
  have z := run_seq (run_lset (n := n) ha.run hi.run hv.run) hr.run p σ H ρ s Z en pk fin
  exact z
end
end Tw

set_option Elab.async false
set_option linter.all false
set_option maxRecDepth 100000
set_option maxHeartbeats 4000000
set_option autoImplicit false
namespace Tw
open PySem L2 PySem.Spec PyProof.Rows
section
variable {K : PySem.W.Frag} {G : Gt} {W : WX} {X : Cx}
variable {P : Program} {w : World} {mg : Str → Option Value} {base : Heap}
/-! ### a def of the text, with defaults or without -/
theorem ok_fd {x qual : Str} {st : Stmt} {f : Addr} {fd : FuncData} {N ps : List Str} {k n : Nat} {b : MS} {dvs : List V} (F : FunD K x qual (defArgs st) (defBody st) (defScope st) dvs [] f fd) (S : FnScope N ps (defScope st)) (hn : ps.length = n)
    (hb : ∀ (cdv : Value) (A : Around) (outer : List Env) (s : Shared) (H : Hp) (E : XK), Room k (A.deeper (envOfC qual (defScope st) s.heap.objs.size f cdv)) →
      ∃ t, DSs G (cxOf (L2.CX P w) P w K mg base N qual (defScope st) f cdv A outer s H E) (fun c d _ H' => E c d H') (defBody st) t b) :
    FnOk P w K mg base (L2.CX P w) (k + 1) f fd ps (spM G n (mdef N.length b)) := by
  refine F.ok S (fun vs H Q E h => by rw [h.1, hn]) fun cdv A outer s H vs Q E hr h => ?_
  obtain ⟨t, dt⟩ := hb cdv A outer s H E hr
  refine ⟨t, dt.ps, ?_⟩
  obtain ⟨_, p, ds, s1, rs, pk, fin⟩ := h
  refine dt.run p _ H (startL N.length ds) s1 _ (env_start rs) pk ?_
  unfold mdef at fin
  cases q : b (startL N.length ds) s1 with
  | nx ρ s' => rw [q] at fin; exact fun σ' H' k pk' _ => fin _ H' k pk' rfl
  | ret d s' => rw [q] at fin; exact fun v H' k pk' rd => fin v H' k pk' rd
  | exc c ns xs ρ s' => rw [q] at fin; exact fun dd σ' H' k pk' _ x => fin dd H' k pk' x
  | bk ρ s' => rw [q] at fin; exact False.elim fin
  | ct ρ s' => rw [q] at fin; exact False.elim fin
  | bad => rw [q] at fin; exact False.elim fin
theorem fund_mk {x qual : Str} {st : Stmt} {f : Addr} {oc : Value} {od an : Option Addr} {osl : Array (Option Value)} {kV doc pm cdv ct : Value} (l : K.lookup f = some ⟨oc, od, .func (PySem.W.fnOf x qual (defArgs st) (defBody st) (defScope st) .none kV doc pm an cdv ct), osl⟩)
    (c : PySem.W.codeIn K cdv qual = true) (k : PySem.W.keepIn K (.ref f) = true) : FunD K x qual (defArgs st) (defBody st) (defScope st) [] [] f (PySem.W.fnOf x qual (defArgs st) (defBody st) (defScope st) .none kV doc pm an cdv ct) :=
  ⟨⟨oc, od, .none, kV, doc, pm, an, cdv, ct, osl, rfl, l, c, .inl ⟨rfl, rfl⟩, .inl rfl⟩, k⟩
theorem fund_mk1 {x qual : Str} {st : Stmt} {f T : Addr} {oc toc : Value} {od an tod : Option Addr} {osl tsl : Array (Option Value)} {kV doc pm cdv ct : Value} {tn : Nat} {its : List Value} {dvs : List V} (l : K.lookup f = some ⟨oc, od, .func (PySem.W.fnOf x qual (defArgs st) (defBody st) (defScope st) (.ref T) kV doc pm an cdv ct), osl⟩)
    (c : PySem.W.codeIn K cdv qual = true) (k : PySem.W.keepIn K (.ref f) = true) (ht : K.lookup T = some ⟨toc, tod, .seq its.toArray tn, tsl⟩) (hv : Vals dvs its) (hne : dvs ≠ []) : FunD K x qual (defArgs st) (defBody st) (defScope st) dvs [] f (PySem.W.fnOf x qual (defArgs st) (defBody st) (defScope st) (.ref T) kV doc pm an cdv ct) :=
  ⟨⟨oc, od, .ref T, kV, doc, pm, an, cdv, ct, osl, rfl, l, c, .inr ⟨hne, T, _, its, tn, rfl, ht, rfl, hv⟩, .inl rfl⟩, k⟩
/-! ### is not of bools -/
def notBo : D → D → M D := fun x y => match x, y with
  | .bl i, .bl j => mret (.bl (!decide (i = j)))
  | _, _ => mbad
theorem prim_notBo : Prim2 G rNotB notBo := by
  intro W p σ H s x y vx vy Q pk rx ry fin
  unfold notBo at fin
  split at fin
  · obtain rfl : vx = _ := rx
    obtain rfl : vy = _ := ry
    exact ⟨_, _, rfl, rfl, fin _ H Keep.refl pk rfl⟩
  · exact False.elim fin
/-! ### gcd of four -/
open PySem.Calls in
theorem run_gcd4 (a : Int) (t : Tok) (b : Int) (u : Tok) (c : Int) (v : Tok) (d : Int) (x : Tok) :
    Gives (Builtin.«math.gcd» ⟨[.int a t, .int b u, .int c v, .int d x], []⟩) (.int (((((Nat.gcd 0 a.natAbs).gcd b.natAbs).gcd c.natAbs).gcd d.natAbs : Nat) : Int)) :=
  .of_wp fun M A E s Q h => by obtain ⟨hp, g, dd, tk, os⟩ := s; wp_walk; exact ⟨_, rfl, h⟩
open PySem.Calls in
theorem args_gcd4 (a b c d : Value) : argsOk "math.gcd" ⟨[a, b, c, d], []⟩ := by unfold argsOk; kernel_rfl
theorem gcd4_eq (a b c d : Int) : ((((Nat.gcd 0 a.natAbs).gcd b.natAbs).gcd c.natAbs).gcd d.natAbs) = ((a.natAbs.gcd b.natAbs).gcd c.natAbs).gcd d.natAbs := by rw [Nat.gcd_zero_left]
def rGcd4 : List V → Hp → VK → Prop := fun vs H Q => ∃ a b c d : Int, vs = [.int a, .int b, .int c, .int d] ∧ Q (.int ((((a.natAbs.gcd b.natAbs).gcd c.natAbs).gcd d.natAbs : Nat) : Int)) H
theorem cr_gcd4 : CallR X (.builtin "math.gcd") rGcd4 := by
  intro pins s σ H vs us Q I r h
  obtain ⟨a, b, c, d, rfl, q⟩ := h
  cases r with | cons r1 r => cases r with | cons r2 r => cases r with | cons r3 r => cases r with | cons r4 r =>
  cases r
  obtain ⟨t1, rfl⟩ := r1
  obtain ⟨t2, rfl⟩ := r2
  obtain ⟨t3, rfl⟩ := r3
  obtain ⟨t4, rfl⟩ := r4
  have g := run_gcd4 a t1 b t2 c t3 d t4
  rw [gcd4_eq] at g
  exact call_function_meets PySem.W.MGF.kind_gcd PySem.W.MGF.plain_gcd PySem.W.MGF.entry_gcd (args_gcd4 _ _ _ _) g.meets ⟨.int _, H, I.tok _, ⟨_, rfl⟩, q⟩
def gcd4D (ds : List D) : M D := match ds with
  | [.int a, .int b, .int c, .int d] => mret (.int ((((a.natAbs.gcd b.natAbs).gcd c.natAbs).gcd d.natAbs : Nat) : Int))
  | _ => mbad
theorem prim_gcd4 : PrimL G rGcd4 gcd4D := by
  intro W p σ H s xs vs Q pk rs fin
  unfold gcd4D at fin
  split at fin
  · obtain ⟨v1, _, rfl, r1, v2, _, rfl, r2, v3, _, rfl, r3, v4, _, rfl, r4, hz⟩ := rs
    obtain rfl := hz
    exact ⟨_, _, _, _, by rw [(show v1 = _ from r1), (show v2 = _ from r2), (show v3 = _ from r3), (show v4 = _ from r4)], fin _ H Keep.refl pk rfl⟩
  · exact False.elim fin
/-! ### a, b = e where e is a tuple or a list -/
def gEi (K : PySem.W.Frag) (n : Nat) (gs : TGs) : TG := fun v σ H Q => gTup K n gs v σ H Q ∨ gLst K n gs v σ H Q
def gem (n : Nat) (g : List D → Loc → Option Loc) : D → Loc → Option Loc := fun d ρ => match d with
  | .tup ds => if decide (ds.length = n) = true then g ds ρ else none
  | .lst ds => if decide (ds.length = n) = true then g ds ρ else none
  | _ => none
theorem g_sq {es : List Expr} {pos : Pos} {vs : List Nat} {n k : Nat} {gs : TGs} {g2 : List D → Loc → Option Loc} (hK : X.K = K) (hc : X.calm = true) (h : DGs G X vs es gs g2) (hn : (assignEach es X.env).length = n := by rfl) (hst : (assignEach es X.env).findIdx? (·.1) = none := by rfl) : DG G X vs (.Tuple es k pos) (gEi K n gs) (gem n g2) := by
  have a := g_tup (k := k) (pos := pos) hK hc h hn hst
  have b := g_lst (k := k) (pos := pos) hK hc h hn hst
  refine ⟨⟨fun pins s σ H v u Q I r hw => ?_⟩, fun p σ H ρ d v Q e rd h => ?_⟩
  · rcases hw with hw | hw
    · exact a.pg.run pins s σ H v u Q I r hw
    · exact b.pg.run pins s σ H v u Q I r hw
  · cases d <;> first
      | exact False.elim h
      | exact .inl (a.run p σ H ρ _ v Q e rd h)
      | exact .inr (b.run p σ H ρ _ v Q e rd h)
/-! ### C.m(..), what is raised let out -/
section
variable {o e : Expr} {es : List Expr} {to : TE} {fo : Loc → M D} {pos apos : Pos} {tA : TA} {fA : Loc → M (List D)} {m : Str}
variable {CX : CXT} {k : Nat} {C p g : Addr} {mc : Value} {fd : FuncData} {ps : List Str} {sp : Sp} {dvs : List V} {dl : List Value} {E : L2.St → XK} {t : TA} {pl : Sem Bool}
theorem run_cmS {pins : List (Addr × Obj)} {σ : L2.St} {H : Hp} {s : Shared} {q : Addr} {Q : VK} {us : List Value} {vs : List V} (F : FnOk X.prog X.w X.K X.mg X.base CX k g fd ps sp) (hr : Room k X.A) (hb : L2.Binds X.K fd ps dl) (hd : Vals dvs dl) (hx : ∀ σ, PassesAt CX X σ (E σ)) (I : Inv X ((q, PySem.W.methodObj (.ref g) (.ref C)) :: pins) σ H s)
    (r : Vals vs us) (h : sp (.ref C :: (vs ++ dvs)) H Q (E σ)) : wpAny (model X.prog X.w) X.A (call (.ref q) us) (EP X pins σ Q) X.xe s := by
  have r2 : Vals ((.ref C :: vs) ++ dvs) ((.ref C :: us) ++ dl) := Vals.append (.cons rfl r) hd
  have hl : ((.ref C :: us) ++ dl).length = ps.length := by rw [← r2.length]; exact F.len _ _ _ _ h
  have z : wpAny (model X.prog X.w) X.A (call (.ref q) us) (EP X ((q, PySem.W.methodObj (.ref g) (.ref C)) :: pins) σ Q) X.xe s := by
    refine wpAny_call (PySem.W.method_call (ClX.pin_at I) (codeAny_mono (F.run X.A X.stack s H ⟨.ref C :: us, []⟩ ((.ref C :: us) ++ dl) ((.ref C :: vs) ++ dvs) Q (E σ) hr I.env0 (hb s (.ref C :: us) I.kIn hl) r2 h) fun r s' hq => ?_))
    cases r with
    | error e => exact hx σ _ H s e s' I hq
    | ok fl =>
      cases fl with
      | ret u => exact I.after hq
      | next => exact False.elim hq
      | brk => exact False.elim hq
      | cont => exact False.elim hq
  exact thn z fun _ _ y => ClX.unpinE y
def tCMethS (C : Addr) (sp : Sp) (dvs : List V) (E : L2.St → XK) (ta : TE) (t : TA) : TE := fun σ H Q => ta σ H fun x H1 => x = .ref C ∧ t σ H1 fun vs H2 => sp (.ref C :: (vs ++ dvs)) H2 Q (E σ)
theorem pe_cmethS (he : PE X o to) (r : ClX.CRead X.K C mc) (c : ClX.CMet X.K C mc m p g) (F : FnOk X.prog X.w X.K X.mg X.base CX k g fd ps sp) (hr : Room k X.A) (hb : L2.Binds X.K fd ps dl) (hd : Vals dvs dl) (hx : ∀ σ, PassesAt CX X σ (E σ)) (ha : PA X (e :: es) t)
    (hst : starEach (e :: es) X.env = (false, eval e X.env) :: starEach es X.env := by rfl) (hpl : (backTo pos (starEach es X.env)).any (·.1) = false := by rfl)
    (ht : eval (.Call (.Attribute o m apos) (e :: es) [] pos) X.env = (do
      let ov ← eval o X.env
      standAt apos.atName
      let (f, first) ← holding [ov] (getMethod ov m pl)
      callWith pos f first (backTo pos (starEach (e :: es) X.env)) (backToKw pos (keywordEach [] X.env))) := by rfl) :
    PE X (.Call (.Attribute o m apos) (e :: es) [] pos) (tCMethS C sp dvs E to t) := by
  refine ⟨fun pins s σ H Q I h => ?_⟩
  refine PySem.W.methodCall_KW (pl := pl) (thn (he.run pins s σ H _ I h) fun u s1 ⟨x, H1, I1, rx, ex, q⟩ => ?_) ht
  subst ex
  obtain rfl : u = Value.ref C := rx
  refine ClX.getmethcm_ok I1 r c fun s2 I2 => ?_
  refine ClX.callwith_cm I2 (ClX.base_none I1 (Nat.le_refl _)) c.fi (thn (ha.run pos _ s2 σ H1 _ I2 q) fun us s3 ⟨vs, H2, I3, rv, q2⟩ => ⟨⟨ClX.pin_at I3, I3.kIn⟩, ?_⟩) hst hpl
  exact run_cmS F hr hb hd hx I3 rv q2
theorem pe_cmethS0 (he : PE X o to) (r : ClX.CRead X.K C mc) (c : ClX.CMet X.K C mc m p g) (F : FnOk X.prog X.w X.K X.mg X.base CX k g fd ps sp) (hr : Room k X.A) (hb : L2.Binds X.K fd ps dl) (hd : Vals dvs dl) (hx : ∀ σ, PassesAt CX X σ (E σ))
    (ht : eval (.Call (.Attribute o m apos) [] [] pos) X.env = (do
      let ov ← eval o X.env
      standAt apos.atName
      let (f, first) ← holding [ov] (getMethod ov m pl)
      callWith pos f first (backTo pos (starEach [] X.env)) (backToKw pos (keywordEach [] X.env))) := by rfl) :
    PE X (.Call (.Attribute o m apos) [] [] pos) (tCMethS C sp dvs E to tNil) := by
  refine ⟨fun pins s σ H Q I h => ?_⟩
  refine PySem.W.methodCall_KW (pl := pl) (thn (he.run pins s σ H _ I h) fun u s1 ⟨x, H1, I1, rx, ex, q⟩ => ?_) ht
  subst ex
  obtain rfl : u = Value.ref C := rx
  refine ClX.getmethcm_ok I1 r c fun s2 I2 => ?_
  exact PySem.W.callWith_M0 ⟨ClX.pin_at I2, I2.kIn⟩ c.fi (run_cmS F hr hb hd hx I2 .nil q)
def kCmS (c : Nat) (md : List D → M D) (dd : List D) (fo : Loc → M D) (fA : Loc → M (List D)) : Loc → M D := fun ρ => mbind (fo ρ) fun d => match d with
  | .cls k => if (k == c) = true then mbind (fA ρ) fun ds => md (.cls c :: (ds ++ dd)) else mbad
  | _ => mbad
theorem run_cmtS {c j N : Nat} {md : List D → M D} {dd : List D} (hdd : ∀ p H, RepL G p H dd dvs) (ho : RunG G W (RelE G) to fo) (ha : RunG G W (RelA G) tA fA) (hl : LenA fA j) (hj : j + dd.length + 1 = N) :
    RunG G W (RelE G) (tCMethS (G.cls c) (spM G N md) dvs (WE W) to tA) (kCmS c md dd fo fA) := by
  intro p σ H ρ s Q e pk fin
  refine ho p σ H ρ s _ e pk (FinG.step (RA := RelE G) fin fun d s1 v H1 k1 pk1 rd fin1 => ?_)
  cases d <;> try (exact False.elim fin1)
  rename_i kk
  dsimp only at fin1
  by_cases hk : (kk == c) = true
  · rw [if_pos hk] at fin1
    obtain rfl : kk = c := beq_iff_eq.mp hk
    refine ⟨rd, ?_⟩
    have fin2 : FinG G W (RelE G) p σ H1 Q (obind (fA ρ s1) fun ds => md (.cls kk :: (ds ++ dd))) := fin1
    refine ha p σ H1 ρ s1 _ (e.keep pk.at k1) pk1 ?_
    cases h2 : fA ρ s1 with
    | ok ds s3 =>
      rw [h2] at fin2
      intro vs H2 k2 pk2 rs
      have hlen : (ds ++ dd).length + 1 = N := by rw [List.length_append, hl ρ s1 ds s3 h2]; exact hj
      have rr : RepL G p H2 (ds ++ dd) (vs ++ dvs) := repL_app rs (hdd p H2)
      exact ⟨by rw [List.length_cons, ← repL_len rr]; exact hlen, p, .cls kk :: (ds ++ dd), s3, ⟨.ref (G.cls kk), vs ++ dvs, rfl, rfl, rr⟩, pk2, (FinG.keep k2 fin2).wx fun _ _ _ z => z⟩
    | exc c ns xs s3 => rw [h2] at fin2; exact fin2
    | bad => rw [h2] at fin2; exact fin2
  · rw [if_neg hk] at fin1; exact False.elim fin1
theorem x_cmtS {c j N : Nat} {md : List D → M D} {dd : List D} (M : Cmt X.K (G.cls c) m ps dl mc p g fd) (F : FnOk X.prog X.w X.K X.mg X.base (L2.CX X.prog X.w) k g fd ps (spM G N md)) (hr : Room k X.A) (tk : Takes X W) (hd : Vals dvs dl) (hdd : ∀ p H, RepL G p H dd dvs)
    (ho : DE G X W o to fo) (ha : DA G X W (e :: es) tA fA) (hl : LenA fA j) (hj : j + dd.length + 1 = N)
    (hst : starEach (e :: es) X.env = (false, eval e X.env) :: starEach es X.env := by rfl) (hpl : (backTo pos (starEach es X.env)).any (·.1) = false := by rfl)
    (ht : eval (.Call (.Attribute o m apos) (e :: es) [] pos) X.env = (do
      let ov ← eval o X.env
      standAt apos.atName
      let (f, first) ← holding [ov] (getMethod ov m pl)
      callWith pos f first (backTo pos (starEach (e :: es) X.env)) (backToKw pos (keywordEach [] X.env))) := by rfl) :
    DE G X W (.Call (.Attribute o m apos) (e :: es) [] pos) (tCMethS (G.cls c) (spM G N md) dvs (WE W) to tA) (kCmS c md dd fo fA) :=
  ⟨pe_cmethS ho.pe M.rd M.at_ F hr M.b hd (fun σ => passAt tk σ) ha.pa hst hpl ht, run_cmtS hdd ho.run ha.run hl hj⟩
theorem x_cmtS0 {c N : Nat} {md : List D → M D} {dd : List D} (M : Cmt X.K (G.cls c) m ps dl mc p g fd) (F : FnOk X.prog X.w X.K X.mg X.base (L2.CX X.prog X.w) k g fd ps (spM G N md)) (hr : Room k X.A) (tk : Takes X W) (hd : Vals dvs dl) (hdd : ∀ p H, RepL G p H dd dvs)
    (ho : DE G X W o to fo) (hj : 0 + dd.length + 1 = N)
    (ht : eval (.Call (.Attribute o m apos) [] [] pos) X.env = (do
      let ov ← eval o X.env
      standAt apos.atName
      let (f, first) ← holding [ov] (getMethod ov m pl)
      callWith pos f first (backTo pos (starEach [] X.env)) (backToKw pos (keywordEach [] X.env))) := by rfl) :
    DE G X W (.Call (.Attribute o m apos) [] [] pos) (tCMethS (G.cls c) (spM G N md) dvs (WE W) to tNil) (kCmS c md dd fo aNil) :=
  ⟨pe_cmethS0 ho.pe M.rd M.at_ F hr M.b hd (fun σ => passAt tk σ) ht, run_cmtS hdd ho.run (a_nil (X := X)).run l_nil hj⟩
end
/-! ### an own operator that may raise -/
section
variable {a b : Expr} {ta tb : TE} {fa fb : Loc → M D} {pos : Pos}
abbrev R2X := V → V → L2.St → Hp → VK → Prop
def OpRX (X : Cx) (f : Value → Value → Sem Value) (r : R2X) : Prop :=
  ∀ (pins : List (Addr × Obj)) (s : Shared) (σ : L2.St) (H : Hp) (x y : V) (v u : Value) (Q : VK), Inv X pins σ H s → RelV x v → RelV y u → r x y σ H Q →
    wpAny (model X.prog X.w) X.A (f v u) (EP X pins σ Q) X.xe s
def Prim2X (G : Gt) (W : WX) (r : R2X) (f : D → D → M D) : Prop :=
  ∀ (p : Fm) (σ : L2.St) (H : Hp) (s : Pen) (x y : D) (vx vy : V) (Q : VK), PenOk G p H s → Rep G p H x vx → Rep G p H y vy → FinG G W (RelE G) p σ H Q (f x y s) → r vx vy σ H Q
def tOpX (r : R2X) (ta tb : TE) : TE := fun σ H Q => ta σ H fun x H1 => tb σ H1 fun y H2 => r x y σ H2 Q
theorem x_opX {op : Operator} {r : R2X} {f : D → D → M D} (ho : OpRX X (binaryOp op) r) (hp : Prim2X G W r f) (ha : DE G X W a ta fa) (hb : DE G X W b tb fb) : DE G X W (.BinOp a op b pos) (tOpX r ta tb) (kOp f fa fb) := by
  refine ⟨⟨fun pins s σ H Q I h => wpAny_BinOp (binT (R := fun x y H2 => r x y σ H2 Q) ha.pe hb.pe I h fun v u s2 x y H2 I2 rx ry q => ho pins s2 σ H2 x y v u Q I2 rx ry q)⟩, fun p σ H ρ s Q e pk fin => ?_⟩
  refine ha.run p σ H ρ s _ e pk (FinG.step (RA := RelE G) fin fun x s1 vx H1 k1 pk1 rx fin1 => ?_)
  refine hb.run p σ H1 ρ s1 _ (e.keep pk.at k1) pk1 (FinG.step (RA := RelE G) fin1 fun y s2 vy H2 k2 pk2 ry fin2 => ?_)
  exact hp p σ H2 s2 x y vx vy Q pk2 (rep_keep pk1.at k2 x vx rx) ry fin2
variable {op : Operator} {C g : Addr} {fd : FuncData} {ps : List Str} {k n : Nat} {sp : Sp} {md : List D → M D} {E : L2.St → XK}
def rOwnX (C : Addr) (sp : Sp) (E : L2.St → XK) : R2X := fun x y σ H Q => ∃ a dx fs b dy gs, x = .ref a ∧ y = .ref b ∧ H a = some (.ins C dx fs) ∧ H b = some (.ins C dy gs) ∧ sp [x, y] H Q (E σ)
theorem op_ownX (M : Opr X.K C op g fd ps) (F : FnOk X.prog X.w X.K X.mg X.base (L2.CX X.prog X.w) k g fd ps sp) (hr : Room k X.A) (hx : ∀ σ, PassesAt (L2.CX X.prog X.w) X σ (E σ)) : OpRX X (binaryOp op) (rOwnX C sp E) := by
  intro pins s σ H x y v u Q I rx ry h
  obtain ⟨a, dx, fs, b, dy, gs, rfl, rfl, ha, hb, q⟩ := h
  obtain rfl : v = Value.ref a := rx
  obtain rfl : u = Value.ref b := ry
  obtain ⟨ox, od, J⟩ := inst_of I ha
  obtain ⟨oy, oe, J'⟩ := inst_of I hb
  exact bin_same I.kIn J J' M.first M.at_ M.isf (wpAny_mono (run_fnSD (E := E) (us := [.ref a, .ref b]) (vs := [.ref a, .ref b]) (dvs := []) F hr M.b .nil (hx σ) I (.cons rfl (.cons rfl .nil)) q) (fun _ _ z => back_of z) fun _ _ z => z)
def ownX (n : Nat) (md : List D → M D) : D → D → M D := fun x y => match x, y with
  | .ins k _ _, .ins j _ _ => if (k == n && j == n) = true then md [x, y] else mbad
  | _, _ => mbad
theorem prim_ownX : Prim2X G W (rOwnX (G.cls n) (spM G 2 md) (WE W)) (ownX n md) := by
  intro p σ H s x y vx vy Q pk rx ry fin
  unfold ownX at fin
  split at fin
  · split at fin
    · rename_i kx nx xs ky ny ys hk
      rw [Bool.and_eq_true] at hk
      obtain rfl : kx = n := beq_iff_eq.mp hk.1
      obtain rfl : ky = kx := beq_iff_eq.mp hk.2
      obtain ⟨a, dx, vs, rfl, a0, a1, al, as⟩ := id rx
      obtain ⟨b, dy, us, rfl, b0, b1, bl, bs⟩ := id ry
      exact ⟨a, dx, _, b, dy, _, rfl, rfl, a1, b1, rfl, p, [.ins _ nx xs, .ins _ ny ys], s, ⟨_, _, rfl, rx, _, _, rfl, ry, rfl⟩, pk, FinG.wx fin fun _ _ _ z => z⟩
    · exact False.elim fin
  · exact False.elim fin
theorem x_own (M : Opr X.K (G.cls n) op g fd ps) (F : FnOk X.prog X.w X.K X.mg X.base (L2.CX X.prog X.w) k g fd ps (spM G 2 md)) (hr : Room k X.A) (tk : Takes X W) (ha : DE G X W a ta fa) (hb : DE G X W b tb fb) :
    DE G X W (.BinOp a op b pos) (tOpX (rOwnX (G.cls n) (spM G 2 md) (WE W)) ta tb) (kOp (ownX n md) fa fb) := x_opX (op_ownX M F hr (fun σ => passAt tk σ)) prim_ownX ha hb
end
/-! ### the error that is handled: isinstance, e.f -/
section
def ExAt (H : Hp) (d : Option Addr) : Prop := ∀ b, d = some b → ∃ gs, H b = some (.xd gs)
def rIsX (K : PySem.W.Frag) (D a : Addr) (d : Option Addr) : List V → Hp → VK → Prop := fun xs H Q => ∃ (c : V) (cv : Value) (b : Bool), xs = [.ref a, c] ∧ (∀ u, RelV c u → u = cv) ∧ PySem.W.kitOne K (.ref D) cv = some b ∧ ExAt H d ∧ Q (.bl b) H
theorem call_isX {a D : Addr} {d : Option Addr} {oe : Obj} {pn : List (Addr × Obj)} (C : ExcC X.K D) (hz : Zc (.ref D) d oe) (hf : ∃ vs, oe.data = .fields vs) : CallR (X.suite a ((a, oe) :: pn)) (.builtin "isinstance") (rIsX X.K D a d) := by
  intro pins s σ H xs us Q I r h
  obtain ⟨c, cv, b, rfl, hcv, e, hx, q⟩ := h
  cases r with | cons rx rr => cases rr with | cons rt rr =>
  cases rr
  cases rx
  have ec := hcv _ rt
  subst ec
  obtain ⟨hget, _⟩ := I.pin (a, oe) (List.mem_append.mpr (.inl List.mem_cons_self))
  obtain ⟨vs, hv⟩ := hf
  have J : ∃ od, PySem.W.InstAt s.heap a oe D od := by
    cases d with
    | none =>
      obtain ⟨oc, od, oda, osl⟩ := oe
      obtain ⟨h1, h2⟩ := hz
      dsimp only at h1 h2 hv
      subst h1 h2 hv
      exact ⟨none, hget, rfl, rfl, trivial⟩
    | some dd =>
      obtain ⟨gs, hdd⟩ := hx dd rfl
      obtain ⟨mA, hns, hr⟩ := (show ObjOk X.prog X.w H s.heap dd (.xd gs) from I.hok dd _ hdd)
      obtain ⟨od, ho, hl⟩ := lookIn_ns hns
      exact ⟨some od, hget, hz.1, by unfold PySem.W.notCls; rw [hv] <;> rfl, by rw [hz.2]; exact ho⟩
  obtain ⟨od, J⟩ := J
  have hc : (PySem.W.clsIn X.K D).isSome = true := by
    obtain ⟨cd, hc, _⟩ := PySem.W.any_some C.hd
    rw [hc]
    rfl
  exact PySem.W.kia_one (PySem.W.kitx_exc hc C.hg C.hk C.hs C.ha C.hn C.ht C.hm) I.kIn J e (fun z => nomatch z) fun tk => ⟨.bl b, H, I.kept (t' := tk) fun _ _ z => z, rfl, q⟩
def isiX (ans : String ⊕ Nat → String ⊕ Nat → Option Bool) (ds : List D) : M D := match ds with
  | [.err c _ _, .ty T] => (match ans (.inr c) (.inl T) with
    | some b => mret (.bl b)
    | none => mbad)
  | [.err c _ _, .cls n] => (match ans (.inr c) (.inr n) with
    | some b => mret (.bl b)
    | none => mbad)
  | _ => mbad
/-- what a caught error's dict is in the heap -/
theorem exat_of {p : Fm} {H : Hp} {a : Addr} {c c2 : Nat} {dd : Option Addr} {ns : List Str} {xs : List D} {v : V} (r : Rep (G.at a c dd) p H (.err c2 ns xs) v) : v = .ref a ∧ c2 = c ∧ ExAt H dd := by
  obtain ⟨a2, d2, us, rfl, q0, _, q1⟩ := r
  have q0' : (a, c, dd) = (a2, c2, d2) := Option.some.inj q0
  obtain ⟨rfl, q2⟩ := Prod.mk.inj q0'
  obtain ⟨rfl, rfl⟩ := Prod.mk.inj q2
  refine ⟨rfl, rfl, fun b hb => ?_⟩
  rcases q1 with ⟨_, e⟩ | ⟨b', gs, _, e, _, hb', _⟩
  · rw [e] at hb; cases hb
  · rw [e] at hb; cases hb; exact ⟨gs, hb'⟩
theorem x_isX {a : Addr} {oe : Obj} {pn : List (Addr × Obj)} {c : Nat} {dd : Option Addr} {ans : String ⊕ Nat → String ⊕ Nat → Option Bool} {p0 pos : Pos} {e : Expr} {es : List Expr} {tA : TA} {fA : Loc → M (List D)} (C : ExcC X.K (G.cls c)) (hz : Zc (.ref (G.cls c)) dd oe) (hf : ∃ vs, oe.data = .fields vs)
    (A : ∀ t b, ans (.inr c) t = some b → PySem.W.kitOne X.K (.ref (G.cls c)) (tyV G t) = some b)
    (hg : Gl (X.suite a ((a, oe) :: pn)) "isinstance") (hm : X.mg "isinstance" = none)
    (ha : DA (G.at a c dd) (X.suite a ((a, oe) :: pn)) W0 (e :: es) tA fA) (he : starEach (e :: es) X.env = (false, eval e X.env) :: starEach es X.env := by rfl) (hpl : (backTo pos (starEach es X.env)).any (·.1) = false := by rfl) :
    DE (G.at a c dd) (X.suite a ((a, oe) :: pn)) W0 (.Call (.Name "isinstance" p0) (e :: es) [] pos) (tCB (rIsX X.K (G.cls c) a dd) tA) (kCall (isiX ans) fA) := by
  refine ⟨pe_callB (call_isX C hz hf) hg hm (by decide +kernel) ha.pa (by decide) (by decide) he hpl, fun p σ H ρ s Q en pk fin => ?_⟩
  refine ha.run p σ H ρ s _ en pk (FinG.step (RA := RelA (G.at a c dd)) fin fun ds s1 vs H1 k1 pk1 rs fin1 => ?_)
  unfold isiX at fin1
  split at fin1
  · rename_i c2 ns xs T
    obtain ⟨v1, _, rfl, r1, v2, _, rfl, r2, hz2⟩ := rs
    obtain rfl := hz2
    obtain ⟨rfl, rfl, hx⟩ := exat_of r1
    obtain rfl : v2 = .ty T := r2
    cases q : ans (.inr c2) (.inl T) with
    | none => rw [q] at fin1; exact False.elim fin1
    | some b =>
      rw [q] at fin1
      exact ⟨_, _, b, rfl, fun u r => r, A _ _ q, hx, fin1 _ H1 Keep.refl pk1 rfl⟩
  · rename_i c2 ns xs n
    obtain ⟨v1, _, rfl, r1, v2, _, rfl, r2, hz2⟩ := rs
    obtain rfl := hz2
    obtain ⟨rfl, rfl, hx⟩ := exat_of r1
    obtain rfl : v2 = .ref (G.cls n) := r2
    cases q : ans (.inr c2) (.inr n) with
    | none => rw [q] at fin1; exact False.elim fin1
    | some b =>
      rw [q] at fin1
      exact ⟨_, _, b, rfl, fun u r => r, A _ _ q, hx, fin1 _ H1 Keep.refl pk1 rfl⟩
  · exact False.elim fin1
def kXf (f : Str) (fe : Loc → M D) : Loc → M D := fun ρ => mbind (fe ρ) fun d => match d with
  | .err _ ns xs => (match fldOf ns xs f with
    | some x => mret x
    | none => mbad)
  | _ => mbad
theorem fldOf_ix : ∀ {ns : List Str} {xs : List D} {f : Str} {d : D}, fldOf ns xs f = some d → ∃ i : Nat, ns[i]? = some f ∧ xs[i]? = some d
  | [], xs, f, d, h => by simp [fldOf] at h
  | n :: ns, [], f, d, h => by simp [fldOf] at h
  | n :: ns, x :: xs, f, d, h => by
    unfold fldOf at h
    rw [List.zip_cons_cons] at h
    simp only [List.lookup] at h
    split at h
    · rename_i hb
      obtain rfl := beq_iff_eq.mp hb
      exact ⟨0, rfl, h⟩
    · obtain ⟨i, e1, e2⟩ := fldOf_ix (ns := ns) (xs := xs) (show fldOf ns xs f = some d from h)
      exact ⟨i + 1, e1, e2⟩
theorem x_xf {a : Addr} {oe : Obj} {pn : List (Addr × Obj)} {c : Nat} {dd : Option Addr} {e : Expr} {te : TE} {fe : Loc → M D} {pos : Pos} {n : Str} (T : XfC X.K (G.cls c)) (hno : PySem.W.findIn X.K (.ref (G.cls c)) n = some none)
    (hz : Zc (.ref (G.cls c)) dd oe) (hf : ∃ vs, oe.data = .fields vs) (he : DE (G.at a c dd) (X.suite a ((a, oe) :: pn)) W0 e te fe) (hb : attributeBase e n X.env (eval e X.env) = eval e X.env := by rfl) :
    DE (G.at a c dd) (X.suite a ((a, oe) :: pn)) W0 (.Attribute e n pos) (tXf a (.ref (G.cls c)) dd (G.cls c) n te) (kXf n fe) := by
  refine ⟨pe_xf T hno hz hf he.pe hb, fun p σ H ρ s Q en pk fin => ?_⟩
  refine he.run p σ H ρ s _ en pk (FinG.step (RA := RelE (G.at a c dd)) fin fun d s1 v H1 k1 pk1 rd fin1 => ?_)
  cases d <;> try (exact False.elim fin1)
  rename_i c2 ns xs
  dsimp only at fin1
  cases q : fldOf ns xs n with
  | none => rw [q] at fin1; exact False.elim fin1
  | some x =>
    rw [q] at fin1
    obtain ⟨i, h1, h2⟩ := fldOf_ix q
    obtain ⟨a2, d2, us, rfl, q0, rs, q1⟩ := id rd
    have q0' : (a, c, dd) = (a2, c2, d2) := Option.some.inj q0
    obtain ⟨rfl, q2⟩ := Prod.mk.inj q0'
    obtain ⟨rfl, rfl⟩ := Prod.mk.inj q2
    rcases q1 with ⟨e0, _⟩ | ⟨b', gs, _, e0, _, hb', hg⟩
    · subst e0; cases i <;> cases h1
    · obtain ⟨w, hw, rw'⟩ := repL_get rs h2
      exact ⟨rfl, rfl, b', gs, w, e0, hb', hg i n w h1 hw, fin1 _ H1 Keep.refl pk1 rw'⟩
end
end
end Tw

set_option Elab.async false
set_option linter.all false
set_option maxRecDepth 100000
set_option maxHeartbeats 4000000
set_option autoImplicit false
namespace Tw
open PySem L2 PySem.Spec PyProof.Rows
section
variable {K : PySem.W.Frag} {G : Gt} {W : WX} {X : Cx}
variable {a b c e : Expr} {es : List Expr} {ta te : TE} {fa fe : Loc → M D} {pos : Pos} {tA : TA} {fA : Loc → M (List D)}
def kMk (c : Nat) (m : List D → M D) (dd : List D) (fA : Loc → M (List D)) : Loc → M D := fun ρ => mbind (fA ρ) fun ds => mkD c m (ds ++ dd)
theorem x_mk {k n : Nat} {c : Nat} {g : Addr} {fd : FuncData} {ps : List Str} {dd : List D} {dvs : List V} {dl : List Value} {m : List D → M D} {x : Str} {p : Pos} (M : MkC X.K X.mg x (G.cls c) g fd ps dl) (F : FnOk X.prog X.w X.K X.mg X.base (L2.CX X.prog X.w) k g fd ps (spM G (n + 1) m)) (hr : Room (k + 1) X.A) (tk : Takes X W) (hd : Vals dvs dl) (hdd : ∀ p H, RepL G p H dd dvs)
    (ha : DA G X W (e :: es) tA fA) {j : Nat} (hl : LenA fA j) (hj : j + dd.length = n) (hg : Gl X x := by rfl) (hdb : (x == ("__debug__" : Str)) = false := by decide) (he : starEach (e :: es) X.env = (false, eval e X.env) :: starEach es X.env := by rfl) (hpl : (backTo pos (starEach es X.env)).any (·.1) = false := by rfl) :
    DE G X W (.Call (.Name x p) (e :: es) [] pos) (tMakeS (G.cls c) (spM G (n + 1) m) dvs (WE W) tA) (kMk c m dd fA) := x_make M F hr tk hd hdd ha hl hj hg hdb he hpl
def spar3 (i j l : Nat) (fA : Loc → M (List D)) : MS := fun ρ s => sof (fA ρ s) ρ fun ds s' => match ds with
  | [x, y, z] => .nx (((ρ.set i (some x)).set j (some y)).set l (some z)) s'
  | _ => .bad
theorem run_par3 {i j l : Nat} (ha : RunG G W (RelA G) tA fA) : RunS G W (tPar3 i j l tA) (spar3 i j l fA) := by
  intro p σ H ρ s Z e pk fin
  refine ha p σ H ρ s _ e pk (FinS.step fin (fun H1 s1 k1 pk1 => e.keep pk.at k1) fun ds s1 vs H1 k1 pk1 rs fin1 => ?_)
  split at fin1
  · obtain ⟨u, _, rfl, ru, v, _, rfl, rv, w, _, rfl, rw', hz⟩ := rs
    obtain rfl := hz
    exact ⟨u, v, w, rfl, fin1 _ H1 Keep.refl pk1 ((((e.keep pk.at k1).set ru).set rv).set rw')⟩
  · exact False.elim fin1
theorem ds_par3 {i j l : Nat} {x y z : Str} {px py pz pt : Pos} {kt k2 pt2} (hc : X.calm = true) (hN : X.N.Nodup) (hi : X.N[i]? = some x) (hj : X.N[j]? = some y) (hl : X.N[l]? = some z) (hij : i ≠ j) (hil : i ≠ l) (hjl : j ≠ l)
    (hx : X.env.scope.names.lookup x = some .local) (hy : X.env.scope.names.lookup y = some .local) (hz : X.env.scope.names.lookup z = some .local) (ha : DA G X W [a, b, c] tA fA)
    (hw : swappedStores [.Tuple [.Name x px, .Name y py, .Name z pz] kt pt] (.Tuple [a, b, c] k2 pt2) X.env = pure (some [x, y, z]) := by rfl)
    (hs : swapsWithSole [.Tuple [.Name x px, .Name y py, .Name z pz] kt pt] (.Tuple [a, b, c] k2 pt2) pos.line X.env = pure false := by rfl) :
    DS G X W (.Assign [.Tuple [.Name x px, .Name y py, .Name z pz] kt pt] (.Tuple [a, b, c] k2 pt2) pos) (tPar3 i j l tA) (spar3 i j l fA) := ⟨ps_par3 hc hN hi hj hl hij hil hjl hx hy hz ha.pa hw hs, run_par3 ha.run⟩
theorem x_gint {x : Str} {i : Int} {t : Tok} (hm : X.mg x = some (.int i t)) (hg : Gl X x := by rfl) (hd : (x == ("__debug__" : Str)) = false := by decide) : DE G X W (.Name x pos) (tC (.int i)) (kC (.int i)) := de_gint hg hm hd
/-! ### list(x), tuple(x) of lists and tuples -/
def listD (ds : List D) : M D := match ds with
  | [.lst xs] => mret (.lst xs)
  | [.tup xs] => mret (.lst xs)
  | _ => mbad
def tupleD (ds : List D) : M D := match ds with
  | [.lst xs] => mret (.tup xs)
  | [.tup xs] => mret (.tup xs)
  | _ => mbad
def rList (K : PySem.W.Frag) : List V → Hp → VK → Prop := fun xs H Q => ∃ p ys, xs = [.ref p] ∧ (SqL K H p ys ∨ SqT K H p ys) ∧ ∀ l, H l = none → Q (.ref l) (upd H l (.lst ys))
def rTuple (K : PySem.W.Frag) : List V → Hp → VK → Prop := fun xs H Q => ∃ p ys, xs = [.ref p] ∧ ((SqL K H p ys ∧ ∀ l, H l = none → Q (.ref l) (upd H l (.tup ys))) ∨ (SqT K H p ys ∧ Q (.ref p) H))
theorem cr_list (hK : X.K = K) : CallR X (.type "list") (rList K) := by subst hK; exact call_list_of
theorem cr_tuple (hK : X.K = K) : CallR X (.type "tuple") (rTuple K) := by subst hK; exact call_tuple_of
theorem prim_list : PrimL G (rList K) listD := by
  intro W p σ H s xs vs Q pk rs fin
  unfold listD at fin
  split at fin
  · obtain ⟨v, _, rfl, ⟨a, us, rfl, h0, h1, q1⟩, hz⟩ := rs
    obtain rfl := hz
    refine ⟨a, us, rfl, .inl (SqL.of h1), fun l hl => ?_⟩
    have k : Keep p H (upd H l (.lst us)) := Keep.new hl
    exact fin _ _ k (pk.new hl) ⟨l, us, rfl, pk.free hl, upd_same, repL_keep pk.at k _ _ q1⟩
  · obtain ⟨v, _, rfl, ⟨a, us, rfl, h0, h1, q1⟩, hz⟩ := rs
    obtain rfl := hz
    refine ⟨a, us, rfl, .inr (SqT.of h1), fun l hl => ?_⟩
    have k : Keep p H (upd H l (.lst us)) := Keep.new hl
    exact fin _ _ k (pk.new hl) ⟨l, us, rfl, pk.free hl, upd_same, repL_keep pk.at k _ _ q1⟩
  · exact fin.elim
theorem prim_tuple : PrimL G (rTuple K) tupleD := by
  intro W p σ H s xs vs Q pk rs fin
  unfold tupleD at fin
  split at fin
  · obtain ⟨v, _, rfl, ⟨a, us, rfl, h0, h1, q1⟩, hz⟩ := rs
    obtain rfl := hz
    refine ⟨a, us, rfl, .inl ⟨SqL.of h1, fun l hl => ?_⟩⟩
    have k : Keep p H (upd H l (.tup us)) := Keep.new hl
    exact fin _ _ k (pk.new hl) ⟨l, us, rfl, pk.free hl, upd_same, repL_keep pk.at k _ _ q1⟩
  · obtain ⟨v, _, rfl, rx, hz⟩ := rs
    obtain rfl := hz
    obtain ⟨a, us, rfl, h0, h1, q1⟩ := id rx
    exact ⟨a, us, rfl, .inr ⟨SqT.of h1, fin _ H Keep.refl pk rx⟩⟩
  · exact fin.elim
/-! ### isinstance, all kinds -/
def isiA (ans : String ⊕ Nat → String ⊕ Nat → Option Bool) (ds : List D) : M D := match ds with
  | [.ins _ _ _, _] => isiO ans ds
  | [_, .cls _] => isiO ans ds
  | _ => isiB ds
theorem prim_isiA {ans : String ⊕ Nat → String ⊕ Nat → Option Bool} (A : IsA G K ans) : PrimL G (rIsi K) (isiA ans) := by
  intro W p σ H s xs vs Q pk rs fin
  unfold isiA at fin
  split at fin
  · exact prim_isiO A W p σ H s _ vs Q pk rs fin
  · exact prim_isiO A W p σ H s _ vs Q pk rs fin
  · exact prim_isiB W p σ H s _ vs Q pk rs fin
theorem kit_self {C : Addr} : PySem.W.kitOne K (.ref C) (.ref C) = some true := by
  unfold PySem.W.kitOne
  rw [if_pos (beq_self_eq_true _)]
theorem kit_own {C : Addr} {t : Value} {b : Bool} (h1 : PySem.W.hasDictIn K C = true) (h2 : PySem.W.typeIn K (.ref C) = some (.type "type")) (h3 : PySem.W.subIn K t (.ref C) = some b) (hn : t ≠ .ref C) : PySem.W.kitOne K t (.ref C) = some b := by
  unfold PySem.W.kitOne
  rw [if_neg (fun z => hn (beq_iff_eq.mp z))]
  have hc : (PySem.W.clsIn K C).isSome = true := by
    obtain ⟨cd, hc, _⟩ := PySem.W.any_some h1
    rw [hc]; rfl
  show (if ((PySem.W.clsIn K C).isSome && PySem.W.typeIn K (.ref C) == some (.type "type")) = true then PySem.W.subIn K t (.ref C) else none) = some b
  rw [if_pos (by rw [hc, h2]; rfl)]
  exact h3
theorem kit_bt {C : Addr} {T : String} {b : Bool} (h1 : PySem.W.kitMeta T = true) (h3 : PySem.W.subIn K (.ref C) (.type T) = some b) : PySem.W.kitOne K (.ref C) (.type T) = some b := by
  unfold PySem.W.kitOne
  rw [if_neg (fun z => by have := beq_iff_eq.mp z; cases this)]
  show (if PySem.W.kitMeta T = true then PySem.W.subIn K (.ref C) (.type T) else none) = some b
  rw [if_pos h1]
  exact h3
theorem ref_ne {C E : Addr} (h : C ≠ E) : (Value.ref C : Value) ≠ .ref E := fun z => h (Value.ref.inj z)
theorem ty_ne {C : Addr} {T : String} : (Value.type T : Value) ≠ .ref C := fun z => nomatch z
theorem binds_full {fd : FuncData} {ps : List Str} {dvs : List V} {j : Nat} (h : ∃ ds, Vals (dvs.drop j) ds ∧ L2.Binds K fd ps ds) (e : dvs.drop j = []) : L2.Binds K fd ps [] := by
  obtain ⟨ds, h1, h2⟩ := h
  rw [e] at h1
  cases h1
  exact h2
/-! ### the bag is made -/
def bag0 (x m : Int) : Pen := ⟨[], 0, 0, x, m, 0, [], 0⟩
def spBag (K : PySem.W.Frag) : Sp := fun vs H Q _ => ∃ (a : Addr) (ns : List Int) (k : Int), vs = [.ref a, .int k] ∧ SqL K H a (ns.map V.int) ∧ ns.length ≤ 63 ∧ 0 ≤ k ∧ k < 1000 ∧
  ∀ (x m : Int) (H' : Hp) (p : Addr), Same H H' → H p = none → H' p = some (.lst [.int x, .int m, .int 0]) → Q (.ref p) H'
end
end Tw

set_option Elab.async false
set_option linter.all false
set_option maxRecDepth 100000
set_option maxHeartbeats 4000000
set_option autoImplicit false
namespace Tw
open PySem L2
theorem Sm.add2 {i j : Int} {n m : Nat} (hi : Sm n i) (hj : Sm m j) : Sm (n + m + 1) (i + j) := by
  unfold Sm at *
  have h1 : 2 ^ n ≤ 2 ^ (n + m) := Nat.pow_le_pow_right (by decide) (by omega)
  have h2 : 2 ^ m ≤ 2 ^ (n + m) := Nat.pow_le_pow_right (by decide) (by omega)
  rw [Nat.pow_succ]
  omega
theorem Sm.neg {i : Int} {n : Nat} (hi : Sm n i) : Sm n (-i) := by
  unfold Sm at *
  rw [Int.natAbs_neg]; exact hi
theorem Sm.sub2 {i j : Int} {n m : Nat} (hi : Sm n i) (hj : Sm m j) : Sm (n + m + 1) (i - j) := by
  rw [Int.sub_eq_add_neg]; exact hi.add2 hj.neg
theorem Sm.lit {i : Int} {n : Nat} (h : Sm n i := by decide) : Sm n i := h
theorem Sm.lit200 {i : Int} (h : decide (i.natAbs < 2 ^ 200) = true) : Sm 200 i := of_decide_eq_true h
theorem mulOk_any {i j : Int} {n m : Nat} (hi : Sm n i) (hj : Sm m j) (h : n + m < 1000000) : mulOk i j = true := by
  unfold Sm at *
  have l : ∀ {x : Int} {k : Nat}, x.natAbs < 2 ^ k → x.natAbs.log2 ≤ k := by
    intro x k hx
    by_cases h0 : x.natAbs = 0
    · rw [h0, Nat.log2_zero]; exact Nat.zero_le _
    · exact Nat.le_of_lt ((Nat.log2_lt h0).mpr hx)
  have a := l hi
  have b := l hj
  unfold mulOk
  rw [decide_eq_true (show i.natAbs.log2 + j.natAbs.log2 < 1000000 by omega)]
  simp
theorem mkD_of {c : Nat} {m : List D → M D} {ds : List D} {s : Pen} {fs : List (Str × D)} (hc : clearL ds = true) (e : m (.self :: ds) { s with obj := [], ocls := c } = .ok .non { s with obj := fs, ocls := c }) : mkD c m ds s = .ok (.ins c (fs.map (·.1)) (fs.map (·.2))) s := by
  unfold mkD
  rw [hc, e]
  rfl
theorem mkD_exc {c c' : Nat} {m : List D → M D} {ds : List D} {s s1 : Pen} {ns : List Str} {xs : List D} (hc : clearL ds = true) (hx : clearL xs = true) (e : m (.self :: ds) { s with obj := [], ocls := c } = .exc c' ns xs s1) (h1 : { s1 with obj := s.obj, ocls := s.ocls } = s) : mkD c m ds s = .exc c' ns xs s := by
  unfold mkD
  rw [hc, e]
  show (if clearL xs = true then Out.exc c' ns xs { s1 with obj := s.obj, ocls := s.ocls } else .bad) = _
  rw [hx, h1]
  rfl
theorem eqA_int (i j : Int) : eqA (.int i) (.int j) = mret (.bl (decide (i = j))) := rfl
theorem eqA_bl (i j : Bool) : eqA (.bl i) (.bl j) = mret (.bl (decide (i = j))) := rfl
theorem neA_int (i j : Int) : neA (.int i) (.int j) = mret (.bl (!decide (i = j))) := rfl
theorem neA_bl (i j : Bool) : neA (.bl i) (.bl j) = mret (.bl (!decide (i = j))) := rfl
theorem isI_ins (n : Nat) (m : Str) (ns : List Str) (xs : List D) (h : ns.contains m = false) : isI n m (.ins n ns xs) = mret () := by
  unfold isI
  simp only [beq_self_eq_true, Bool.true_and, h, Bool.not_false, if_true]
theorem sseq_nx' {m m' : MS} {ρ ρ' : Loc} {s s' : Pen} {o : OutS} (h : m ρ s = .nx ρ' s') (h2 : m' ρ' s' = o) : sseq m m' ρ s = o := by rw [sseq_nx h]; exact h2
theorem nox_ret {α : Type} (a : α) : nox (mret a) = mret a := rfl
theorem nox_ok {α : Type} {m : M α} {a : α} {s s' : Pen} (h : m s = .ok a s') : nox m s = .ok a s' := by
  unfold nox; rw [h]
theorem p6 : powI (.int 10) (.int 6) = mret (.int 1000000) := rfl
section
variable {ans : String ⊕ Nat → String ⊕ Nat → Option Bool}
theorem isiA_int (i : Int) (T : String) : isiA ans [.int i, .ty T] = isiB [.int i, .ty T] := rfl
theorem isiA_bl (i : Bool) (T : String) : isiA ans [.bl i, .ty T] = isiB [.bl i, .ty T] := rfl
theorem isiA_non (T : String) : isiA ans [.non, .ty T] = isiB [.non, .ty T] := rfl
theorem isiA_str (x : Str) (T : String) : isiA ans [.str x, .ty T] = isiB [.str x, .ty T] := rfl
theorem isiA_tup (xs : List D) (T : String) : isiA ans [.tup xs, .ty T] = isiB [.tup xs, .ty T] := rfl
theorem isiA_lst (xs : List D) (T : String) : isiA ans [.lst xs, .ty T] = isiB [.lst xs, .ty T] := rfl
theorem isiA_ins (n : Nat) (ns : List Str) (xs : List D) (T : String) {b : Bool} (h : ans (.inr n) (.inl T) = some b) : isiA ans [.ins n ns xs, .ty T] = mret (.bl b) := by
  show (match ans (.inr n) (.inl T) with | some b => mret (D.bl b) | none => mbad) = _
  rw [h]
theorem isiA_cls {x : D} {t : String ⊕ Nat} (n : Nat) {b : Bool} (ht : tyTag x = some t) (h : ans t (.inr n) = some b) : isiA ans [x, .cls n] = mret (.bl b) := by
  have e : isiA ans [x, .cls n] = isiO ans [x, .cls n] := by cases x <;> rfl
  rw [e]
  show (match tyTag x with | some t => (match ans t (.inr n) with | some b => mret (D.bl b) | none => mbad) | none => mbad) = _
  rw [ht]
  dsimp only
  rw [h]
end
end Tw

set_option Elab.async false
set_option linter.all false
set_option maxRecDepth 100000
set_option maxHeartbeats 4000000
set_option autoImplicit false
namespace Tw
open PySem L2
theorem toPL_ints : ∀ ns : List Int, toPL (ns.map D.int) = some (ns.map PyData.int)
  | [] => rfl
  | n :: ns => by
    rw [List.map_cons, List.map_cons]
    unfold toPL
    rw [toPL_ints ns]
    rfl
theorem lay_ints : ∀ ns : List Int, PyData.canLayAll0 (ns.map PyData.int) = true
  | [] => by simp [PyData.canLayAll0]
  | n :: ns => by simp [PyData.canLayAll0, PyData.canLay0, lay_ints ns]
theorem depth_ints : ∀ ns : List Int, PyData.depthAll (ns.map PyData.int) ≤ 1
  | [] => by simp [PyData.depthAll]
  | n :: ns => by
    have := depth_ints ns
    simp only [List.map_cons, PyData.depthAll, PyData.depth]
    omega
theorem shaped_tup (ns : List Int) : SeqAt.shaped (.tuple (ns.map PyData.int)) = true := by
  have h := depth_ints ns
  unfold SeqAt.shaped
  rw [Bool.and_eq_true]
  refine ⟨by simp only [PyData.canLay0]; exact lay_ints ns, decide_eq_true ?_⟩
  simp only [PyData.depth]
  omega
theorem shaped_lst (ns : List Int) : SeqAt.shaped (.list (ns.map PyData.int)) = true := by
  have h := depth_ints ns
  unfold SeqAt.shaped
  rw [Bool.and_eq_true]
  refine ⟨by simp only [PyData.canLay0]; exact lay_ints ns, decide_eq_true ?_⟩
  simp only [PyData.depth]
  omega
theorem eqv_ints : ∀ ns ms : List Int, PyData.eqvAll (ns.map PyData.int) (ms.map PyData.int) = decide (ns = ms)
  | [], [] => by simp [PyData.eqvAll]
  | [], m :: ms => by simp [PyData.eqvAll]
  | n :: ns, [] => by simp [PyData.eqvAll]
  | n :: ns, m :: ms => by
    simp only [List.map_cons, PyData.eqvAll, PyData.eqv, eqv_ints ns ms]
    by_cases h : n = m
    · by_cases h2 : ns = ms <;> simp [h, h2]
    · simp [h]
theorem eqT (ns ms : List Int) : eqA (.tup (ns.map D.int)) (.tup (ms.map D.int)) = mret (.bl (decide (ns = ms))) := by
  show eqDat _ _ = _
  have a : toP (.tup (ns.map D.int)) = some (.tuple (ns.map PyData.int)) := by unfold toP; rw [toPL_ints]; rfl
  have b : toP (.tup (ms.map D.int)) = some (.tuple (ms.map PyData.int)) := by unfold toP; rw [toPL_ints]; rfl
  unfold eqDat
  rw [a, b]
  dsimp only
  rw [shaped_tup, shaped_tup, if_pos (show (true && true) = true from rfl)]
  simp only [PyData.eqv, eqv_ints]
theorem eqL (ns ms : List Int) : eqA (.lst (ns.map D.int)) (.lst (ms.map D.int)) = mret (.bl (decide (ns = ms))) := by
  show eqDat _ _ = _
  have a : toP (.lst (ns.map D.int)) = some (.list (ns.map PyData.int)) := by unfold toP; rw [toPL_ints]; rfl
  have b : toP (.lst (ms.map D.int)) = some (.list (ms.map PyData.int)) := by unfold toP; rw [toPL_ints]; rfl
  unfold eqDat
  rw [a, b]
  dsimp only
  rw [shaped_lst, shaped_lst, if_pos (show (true && true) = true from rfl)]
  simp only [PyData.eqv, eqv_ints]
theorem neT (ns ms : List Int) : neA (.tup (ns.map D.int)) (.tup (ms.map D.int)) = mret (.bl (!decide (ns = ms))) := by
  show neDat _ _ = _
  have a : toP (.tup (ns.map D.int)) = some (.tuple (ns.map PyData.int)) := by unfold toP; rw [toPL_ints]; rfl
  have b : toP (.tup (ms.map D.int)) = some (.tuple (ms.map PyData.int)) := by unfold toP; rw [toPL_ints]; rfl
  unfold neDat
  rw [a, b]
  dsimp only
  rw [shaped_tup, shaped_tup, if_pos (show (true && true) = true from rfl)]
  simp only [PyData.eqv, eqv_ints]
theorem neL (ns ms : List Int) : neA (.lst (ns.map D.int)) (.lst (ms.map D.int)) = mret (.bl (!decide (ns = ms))) := by
  show neDat _ _ = _
  have a : toP (.lst (ns.map D.int)) = some (.list (ns.map PyData.int)) := by unfold toP; rw [toPL_ints]; rfl
  have b : toP (.lst (ms.map D.int)) = some (.list (ms.map PyData.int)) := by unfold toP; rw [toPL_ints]; rfl
  unfold neDat
  rw [a, b]
  dsimp only
  rw [shaped_lst, shaped_lst, if_pos (show (true && true) = true from rfl)]
  simp only [PyData.eqv, eqv_ints]
theorem eqT3 (a b c x y z : Int) : eqA (.tup [.int a, .int b, .int c]) (.tup [.int x, .int y, .int z]) = mret (.bl (decide (a = x ∧ b = y ∧ c = z))) := by
  have h := eqT [a, b, c] [x, y, z]
  simpa using h
theorem neT2 (a b x y : Int) : neA (.tup [.int a, .int b]) (.tup [.int x, .int y]) = mret (.bl (!decide (a = x ∧ b = y))) := by
  have h := neT [a, b] [x, y]
  simpa using h
theorem at0 (x : D) (xs : List D) : atI (x :: xs) 0 = some x := atI_nat (j := 0) (show (x :: xs)[0]? = some x by simp)
theorem at1 (x y : D) (xs : List D) : atI (x :: y :: xs) 1 = some y := atI_nat (j := 1) (show (x :: y :: xs)[1]? = some y by simp)
theorem at2 (x y z : D) (xs : List D) : atI (x :: y :: z :: xs) 2 = some z := atI_nat (j := 2) (show (x :: y :: z :: xs)[2]? = some z by simp)
end Tw

set_option Elab.async false
set_option linter.all false
set_option maxRecDepth 100000
set_option maxHeartbeats 4000000
set_option autoImplicit false
namespace Tw
open PySem L2
local macro_rules | `(tactic| walk_at "sm") => `(tactic| first | assumption | exact Sm.lit200 (by decide) | (refine Sm.mul ?_ ?_ <;> walk_at "sm") | (refine Sm.add2 ?_ ?_ <;> walk_at "sm") | (refine Sm.sub2 ?_ ?_ <;> walk_at "sm") | (refine Sm.neg ?_; walk_at "sm"))
local macro_rules | `(tactic| walk_at "mo") => `(tactic| (refine mulOk_any (n := ?nn) (m := ?mm) ?_ ?_ ?_ <;> first | walk_at "sm" | decide))
local macro_rules | `(tactic| walk_at "ds") => `(tactic| first | assumption | walk_at "mo" | decide | omega)
local macro_rules | `(tactic| walk_at "tw") => `(tactic| simp (disch := walk_at "ds") only [mdef, startL, sseq, zNx, zIf, zRet, zRetN, zEx, zBk, zCt, zRaise, zRaiseN, sasg, spar, spar3, sof_ret, sof_ok, mret_ap, mbind_ap, obind_ok, mbind_ret, mbind_bad, kC, kOp, kUn, kB, kAnd, kOr, kNot, kAndV, kOrV, kNotV, kIf, kCh, aNil, aCons, kCall, kMk, kMkV, kCmS, kMeth, kProp, kFld, iL, iT, iR1, iR2, mvar, gnm, gtm, glm, gem, gcn, gnl, asB, asL, asT, int2, int2c, addIL, addI, subI, mul_eq, fdv_eq, fdv_64, fmd_eq, ne_eq, not_false_eq_true, Int.reduceEq, Nat.reduceLeDiff, Int.reduceAdd, Int.reduceNeg, Int.reduceLT, Int.reduceLE, Int.reduceSub, Nat.reduceEqDiff, p9, p15, p18, p20, p30, p6, negI, ltI, leI, gtI, geI, eqA_int, eqA_bl, neA_int, neA_bl, isBo, notBo, isNo, notNo, tupD, lstD, itemD, gcdD, gcd4D, intD, absD, lenD, listD, tupleD, penGet, penPut, Pen.get, Pen.put, bagGet, bagPut, Pen.bget, Pen.bput, objPut,
  isI_ins, at0, at1, at2, isiA_int, isiA_bl, isiA_non, isiA_str, isiA_tup, isiA_lst, ii_int, ii_bool, ib_int, ib_bool, in_int, is_int, it_int, il_int, it_tuple, nox_ret, nox_ok,
  List.map_cons, List.map_nil, List.length_cons, List.length_nil, List.cons_append, List.nil_append, List.append_nil, List.getElem?_cons_zero, List.getElem?_cons_succ, List.set_cons_zero, List.set_cons_succ, List.replicate_succ, List.replicate_zero, Nat.reduceSub, Nat.reduceAdd, if_true, if_false, decide_eq_true_eq, Bool.not_eq_true', Bool.true_eq_false, Bool.false_eq_true, reduceIte, decide_true, decide_false, Bool.not_true, Bool.not_false, ite_true, ite_false, List.length_map, beq_self_eq_true, Bool.and_self, Bool.true_and, Bool.and_true, Bool.and_false, Bool.false_and, *])
namespace Bag
def b_take_0 : MS := (zIf (kB (kOp gtI (bagGet (mvar 0) .rest) (kC (.int 0)))) (sseq (sasg (kOp fmdI (kCall intD (aCons (bagGet (mvar 0) .rest) aNil)) (mvar 1)) (gnm 2)) (sseq (bagPut (mvar 0) (kOp fdvI (bagGet (mvar 0) .rest) (mvar 1)) .rest) (zRet (mvar 2)))) zNx)
def b_take_1 : MS := (bagPut (mvar 0) (kOp addIL (bagGet (mvar 0) .turn) (kC (.int 1))) .turn)
def b_take_2 : MS := (bagPut (mvar 0) (kOp fmdI (kCall intD (aCons (kOp addIL (kOp addIL (kOp mulI (bagGet (mvar 0) .seed) (kC (.int 48271))) (kOp mulI (kC (.int 11)) (bagGet (mvar 0) .turn))) (kC (.int 7))) aNil)) (kC (.int 2147483647))) .seed)
def b_take_3 : MS := (zRet (kOp fmdI (kOp fdvI (kOp fmdI (kCall intD (aCons (kOp mulI (bagGet (mvar 0) .seed) (kC (.int 16807))) aNil)) (kC (.int 2147483629))) (kC (.int 64))) (mvar 1)))
def b_take : MS := (sseq b_take_0 (sseq b_take_1 (sseq b_take_2 b_take_3)))
def m_take : List D → M D := mdef 3 b_take
def b_of : MS := (zRet (kOp itemD (mvar 1) (kCall m_take (aCons (mvar 0) (aCons (kCall lenD (aCons (mvar 1) aNil)) aNil)))))
def m_of : List D → M D := mdef 2 b_of
theorem take_ok (s : Pen) (many : Int) (h : 0 < many) (h9 : many.natAbs.log2 < 9000) : ∃ d s', m_take [.bag, .int many] s = .ok (.int d) s' ∧ 0 ≤ d ∧ d < many ∧ s'.obj = s.obj ∧ s'.ocls = s.ocls := by
  have h2 : many ≠ 0 := by omega
  by_cases h1 : 0 < s.rest
  · refine ⟨s.rest.fmod many, { s with rest := s.rest.fdiv many }, mdef_ret ?_, Int.fmod_nonneg_of_pos _ h, Int.fmod_lt_of_pos _ h, rfl, rfl⟩
    unfold b_take b_take_0
    walk_at "tw"
  · have m1 : mulOk s.seed 48271 = true := mulOk_r (by decide)
    have m2 : mulOk 11 (s.turn + 1) = true := mulOk_l (by decide)
    have m3 : mulOk ((s.seed * 48271 + 11 * (s.turn + 1) + 7).fmod 2147483647) 16807 = true := mulOk_r (by decide)
    have h3 : (2147483629 : Int) ≠ 0 := by decide
    have h4 : (2147483647 : Int) ≠ 0 := by decide
    refine ⟨((((s.seed * 48271 + 11 * (s.turn + 1) + 7).fmod 2147483647 * 16807).fmod 2147483629).fdiv 64).fmod many, { s with turn := s.turn + 1, seed := (s.seed * 48271 + 11 * (s.turn + 1) + 7).fmod 2147483647 }, mdef_ret ?_, Int.fmod_nonneg_of_pos _ h, Int.fmod_lt_of_pos _ h, rfl, rfl⟩
    unfold b_take b_take_0 b_take_1 b_take_2 b_take_3
    walk_at "tw"
theorem of_ok (s : Pen) (xs : List D) (h : 0 < xs.length) (hl : xs.length ≤ 1000) : ∃ d s', m_of [.bag, .lst xs] s = .ok d s' ∧ d ∈ xs ∧ s'.obj = s.obj ∧ s'.ocls = s.ocls := by
  have hlog : ((xs.length : Nat) : Int).natAbs.log2 < 9000 := by
    have : ((xs.length : Nat) : Int).natAbs ≤ 1000 := by omega
    exact Nat.lt_of_le_of_lt (log2_le this) (by decide)
  obtain ⟨d, s1, e1, h0, h1, h2⟩ := take_ok s (xs.length : Nat) (by omega) hlog
  obtain ⟨j, rfl⟩ := Int.eq_ofNat_of_zero_le h0
  have hj : j < xs.length := by omega
  have hat : atI xs ((j : Nat) : Int) = some xs[j] := atI_nat (List.getElem?_eq_some_iff.mpr ⟨hj, rfl⟩)
  refine ⟨xs[j], s1, mdef_ret ?_, List.getElem_mem _, h2⟩
  unfold b_of
  walk_at "tw"
end Bag
end Tw

set_option Elab.async false
set_option linter.all false
set_option maxRecDepth 100000
set_option maxHeartbeats 4000000
set_option autoImplicit false
namespace Tw
open PySem L2
local macro_rules | `(tactic| walk_at "sm") => `(tactic| first | assumption | exact Sm.lit200 (by decide) | (refine Sm.mul ?_ ?_ <;> walk_at "sm") | (refine Sm.add2 ?_ ?_ <;> walk_at "sm") | (refine Sm.sub2 ?_ ?_ <;> walk_at "sm") | (refine Sm.neg ?_; walk_at "sm"))
local macro_rules | `(tactic| walk_at "mo") => `(tactic| (refine mulOk_any (n := ?nn) (m := ?mm) ?_ ?_ ?_ <;> first | walk_at "sm" | decide))
local macro_rules | `(tactic| walk_at "ds") => `(tactic| first | assumption | walk_at "mo" | decide | omega)
local macro_rules | `(tactic| walk_at "tw") => `(tactic| simp (disch := walk_at "ds") only [mdef, startL, sseq, zNx, zIf, zRet, zRetN, zEx, zBk, zCt, zRaise, zRaiseN, sasg, spar, spar3, sof_ret, sof_ok, mret_ap, mbind_ap, obind_ok, mbind_ret, mbind_bad, kC, kOp, kUn, kB, kAnd, kOr, kNot, kAndV, kOrV, kNotV, kIf, kCh, aNil, aCons, kCall, kMk, kMkV, kCmS, kMeth, kProp, kFld, iL, iT, iR1, iR2, mvar, gnm, gtm, glm, gem, gcn, gnl, asB, asL, asT, int2, int2c, addIL, addI, subI, mul_eq, fdv_eq, fdv_64, fmd_eq, ne_eq, not_false_eq_true, Int.reduceEq, Nat.reduceLeDiff, Int.reduceAdd, Int.reduceNeg, Int.reduceLT, Int.reduceLE, Int.reduceSub, Nat.reduceEqDiff, p9, p15, p18, p20, p30, p6, negI, ltI, leI, gtI, geI, eqA_int, eqA_bl, neA_int, neA_bl, isBo, notBo, isNo, notNo, tupD, lstD, itemD, gcdD, gcd4D, intD, absD, lenD, listD, tupleD, penGet, penPut, Pen.get, Pen.put, bagGet, bagPut, Pen.bget, Pen.bput, objPut,
  isI_ins, at0, at1, at2, isiA_int, isiA_bl, isiA_non, isiA_str, isiA_tup, isiA_lst, ii_int, ii_bool, ib_int, ib_bool, in_int, is_int, it_int, il_int, it_tuple, nox_ret, nox_ok,
  List.map_cons, List.map_nil, List.length_cons, List.length_nil, List.cons_append, List.nil_append, List.append_nil, List.getElem?_cons_zero, List.getElem?_cons_succ, List.set_cons_zero, List.set_cons_succ, List.replicate_succ, List.replicate_zero, Nat.reduceSub, Nat.reduceAdd, if_true, if_false, decide_eq_true_eq, Bool.not_eq_true', Bool.true_eq_false, Bool.false_eq_true, reduceIte, decide_true, decide_false, Bool.not_true, Bool.not_false, ite_true, ite_false, List.length_map, beq_self_eq_true, Bool.and_self, Bool.true_and, Bool.and_true, Bool.and_false, Bool.false_and, *])
namespace Bag
noncomputable section
def lb_gcd_0 : MS := (spar 3 4 (aCons (mvar 4) (aCons (kOp fmdI (kCall intD (aCons (mvar 3) aNil)) (mvar 4)) aNil)))
def lb_gcd_1 : MS := (sseq (spar 3 4 (aCons (mvar 1) (aCons (kCall absD (aCons (mvar 2) aNil)) aNil))) (sseq (swhile (kB (kOp neA (mvar 4) (kC (.int 0)))) lb_gcd_0) (sasg (mvar 3) (gnm 1))))
def b_gcd_0 : MS := (sasg (kC (.int 0)) (gnm 1))
def b_gcd_1 : MS := (sfor (iL (mvar 0)) (gnm 2) lb_gcd_1)
def b_gcd_2 : MS := (zRet (mvar 1))
def b_gcd : MS := (sseq b_gcd_0 (sseq b_gcd_1 b_gcd_2))
def m_gcd : List D → M D := mdef 5 b_gcd
def b_rat_0 : MS := (sasg (kCall m_gcd (aCons (kCall lstD (aCons (mvar 0) (aCons (mvar 1) aNil))) aNil)) (gnm 2))
def b_rat_1 : MS := (zIf (kB (kOp ltI (mvar 1) (kC (.int 0)))) (sasg (kUn negI (mvar 2)) (gnm 2)) zNx)
def b_rat_2 : MS := (zRet (kCall tupD (aCons (kOp fdvI (mvar 0) (mvar 2)) (aCons (kOp fdvI (mvar 1) (mvar 2)) aNil))))
def b_rat : MS := (sseq b_rat_0 (sseq b_rat_1 b_rat_2))
def m_rat : List D → M D := mdef 3 b_rat
theorem turn_eq (x0 x1 x2 : Option D) (a b : Nat) (hb : b ≠ 0) (s : Pen) : lb_gcd_0 [x0, x1, x2, some (.int (a : Nat)), some (.int (b : Nat))] s = .nx [x0, x1, x2, some (.int (b : Nat)), some (.int ((a % b : Nat) : Int))] s := by
  unfold lb_gcd_0
  have h1 : ((b : Nat) : Int) ≠ 0 := by omega
  have h2 : ((a : Nat) : Int).fmod (b : Nat) = ((a % b : Nat) : Int) := by
    rw [Int.fmod_eq_emod_of_nonneg _ (by omega)]
    rfl
  walk_at "tw"
theorem euc (x0 x1 x2 : Option D) (s : Pen) : ∀ (b a : Nat), ∃ n, swN (kB (kOp neA (mvar 4) (kC (.int 0)))) lb_gcd_0 n [x0, x1, x2, some (.int (a : Nat)), some (.int (b : Nat))] s = .nx [x0, x1, x2, some (.int ((Nat.gcd a b : Nat) : Int)), some (.int ((0 : Nat) : Int))] s := by
  intro b
  induction b using Nat.strongRecOn with
  | _ b ih =>
    intro a
    by_cases hb : b = 0
    · subst hb
      refine ⟨1, ?_⟩
      rw [Nat.gcd_zero_right]
      rfl
    · obtain ⟨n, hn⟩ := ih (a % b) (Nat.mod_lt _ (by omega)) b
      refine ⟨n + 1, ?_⟩
      have hg : Nat.gcd b (a % b) = Nat.gcd a b := by rw [Nat.gcd_comm b, ← Nat.gcd_rec, Nat.gcd_comm]
      rw [hg] at hn
      have h1 : ((b : Nat) : Int) ≠ 0 := by omega
      have e : kB (kOp neA (mvar 4) (kC (.int 0))) [x0, x1, x2, some (.int (a : Nat)), some (.int (b : Nat))] s = .ok true s := by
        show Out.ok (!decide (((b : Nat) : Int) = 0)) s = _
        rw [decide_eq_false h1]; rfl
      unfold swN
      rw [e]
      show (match lb_gcd_0 [x0, x1, x2, some (.int (a : Nat)), some (.int (b : Nat))] s with | .nx ρ2 s2 => swN _ _ n ρ2 s2 | .ct ρ2 s2 => swN _ _ n ρ2 s2 | .bk ρ2 s2 => .nx ρ2 s2 | .ret d s2 => .ret d s2 | .exc c ns xs ρ2 s2 => .exc c ns xs ρ2 s2 | .bad => .bad) = _
      rw [turn_eq x0 x1 x2 a b hb s]
      exact hn
theorem wh (x0 x1 x2 : Option D) (s : Pen) (a b : Nat) : swhile (kB (kOp neA (mvar 4) (kC (.int 0)))) lb_gcd_0 [x0, x1, x2, some (.int (a : Nat)), some (.int (b : Nat))] s = .nx [x0, x1, x2, some (.int ((Nat.gcd a b : Nat) : Int)), some (.int ((0 : Nat) : Int))] s := by
  obtain ⟨n, hn⟩ := euc x0 x1 x2 s b a
  exact swhile_eq hn (fun z => nomatch z)
theorem abs_eq (a : Int) : (if a < 0 then -a else a) = ((a.natAbs : Nat) : Int) := by split <;> omega
theorem gturn (x0 x3 x4 : Option D) (g : Nat) (n : Int) (s : Pen) : lb_gcd_1 [x0, some (.int (g : Nat)), some (.int n), x3, x4] s = .nx [x0, some (.int ((Nat.gcd g n.natAbs : Nat) : Int)), some (.int n), some (.int ((Nat.gcd g n.natAbs : Nat) : Int)), some (.int ((0 : Nat) : Int))] s := by
  unfold lb_gcd_1
  have e := wh x0 (some (.int (g : Nat))) (some (.int n)) s g n.natAbs
  have ea := abs_eq n
  have e1 : absD [.int n] = mret (.int ((n.natAbs : Nat) : Int)) := by show mret (D.int (if n < 0 then -n else n)) = _; rw [ea]
  show sseq (spar 3 4 _) _ _ s = _
  have e0 : spar 3 4 (aCons (mvar 1) (aCons (kCall absD (aCons (mvar 2) aNil)) aNil)) [x0, some (.int (g : Nat)), some (.int n), x3, x4] s = .nx [x0, some (.int (g : Nat)), some (.int n), some (.int (g : Nat)), some (.int ((n.natAbs : Nat) : Int))] s := by
    clear e
    simp only [spar, aCons, aNil, kCall, mvar, e1, mbind_ret, sof_ret, List.getElem?_cons_succ, List.getElem?_cons_zero, List.set_cons_succ, List.set_cons_zero]
  rw [sseq_nx e0, sseq_nx e]
  rfl
theorem gloop (x0 : Option D) (s : Pen) : ∀ (ns : List Int) (x2 x3 x4 : Option D) (g : Nat), ∃ y2 y3 y4, sloop (gnm 2) lb_gcd_1 (ns.map D.int) [x0, some (.int (g : Nat)), x2, x3, x4] s = .nx [x0, some (.int ((ns.foldl (fun g n => Nat.gcd g n.natAbs) g : Nat) : Int)), y2, y3, y4] s
  | [], x2, x3, x4, g => ⟨_, _, _, rfl⟩
  | n :: ns, x2, x3, x4, g => by
    obtain ⟨y2, y3, y4, h⟩ := gloop x0 s ns (some (.int n)) (some (.int ((Nat.gcd g n.natAbs : Nat) : Int))) (some (.int ((0 : Nat) : Int))) (Nat.gcd g n.natAbs)
    refine ⟨y2, y3, y4, ?_⟩
    rw [List.map_cons]
    unfold sloop
    show (match lb_gcd_1 [x0, some (.int (g : Nat)), some (.int n), x3, x4] s with | .nx ρ2 s2 => sloop (gnm 2) lb_gcd_1 (ns.map D.int) ρ2 s2 | .ct ρ2 s2 => sloop (gnm 2) lb_gcd_1 (ns.map D.int) ρ2 s2 | .bk ρ2 s2 => .nx ρ2 s2 | .ret d s2 => .ret d s2 | .exc c ns xs ρ2 s2 => .exc c ns xs ρ2 s2 | .bad => .bad) = _
    rw [gturn]
    exact h
theorem gcd_eq (ns : List Int) : m_gcd [.lst (ns.map D.int)] = mret (.int ((ns.foldl (fun g n => Nat.gcd g n.natAbs) 0 : Nat) : Int)) := by
  funext s
  refine mdef_ret ?_
  obtain ⟨y2, y3, y4, h⟩ := gloop (some (.lst (ns.map D.int))) s ns none none none 0
  have e1 : b_gcd_1 [some (.lst (ns.map D.int)), some (.int ((0 : Nat) : Int)), none, none, none] s = _ := h
  show sseq b_gcd_0 (sseq b_gcd_1 b_gcd_2) [some (.lst (ns.map D.int)), none, none, none, none] s = _
  rw [sseq_nx (show b_gcd_0 [some (.lst (ns.map D.int)), none, none, none, none] s = .nx [some (.lst (ns.map D.int)), some (.int ((0 : Nat) : Int)), none, none, none] s from rfl), sseq_nx e1]
  rfl
theorem gcd2_eq (a b : Int) : m_gcd [.lst [.int a, .int b]] = mret (.int ((Nat.gcd a.natAbs b.natAbs : Nat) : Int)) := by
  have h := gcd_eq [a, b]
  simp only [List.map_cons, List.map_nil, List.foldl_cons, List.foldl_nil, Nat.gcd_zero_left] at h
  exact h
theorem rat_eq (a b : Int) (hb : b ≠ 0) (h9 : b.natAbs.log2 < 9000) : m_rat [.int a, .int b] = mret (rd (Rat.divInt a b)) := by
  funext s
  have hg : 0 < Nat.gcd a.natAbs b.natAbs := Nat.gcd_pos_of_pos_right _ (by omega)
  have hl : (Nat.gcd a.natAbs b.natAbs).log2 < 9000 := Nat.lt_of_le_of_lt (log2_le (Nat.le_of_dvd (by omega) (Nat.gcd_dvd_right ..))) h9
  have hi : ((Nat.gcd a.natAbs b.natAbs : Nat) : Int) ≠ 0 := by omega
  have hn : (((Nat.gcd a.natAbs b.natAbs : Nat) : Int)).natAbs.log2 < 9000 := by simpa using hl
  have k := lowered a b hb _ rfl
  have e := gcd2_eq a b
  refine mdef_ret ?_
  by_cases hneg : b < 0
  · have hn' : (-((Nat.gcd a.natAbs b.natAbs : Nat) : Int)).natAbs.log2 < 9000 := by rw [Int.natAbs_neg]; exact hn
    have hi' : -((Nat.gcd a.natAbs b.natAbs : Nat) : Int) ≠ 0 := by omega
    have f1 := fdv_eq (i := a) hi' hn'
    have f2 := fdv_eq (i := b) hi' hn'
    rw [if_pos hneg] at k
    rw [← k]
    clear hg hl hi hn hi' hn' k
    unfold b_rat b_rat_0 b_rat_1 b_rat_2
    walk_at "tw"
  · have f1 := fdv_eq (i := a) hi hn
    have f2 := fdv_eq (i := b) hi hn
    rw [if_neg hneg] at k
    rw [← k]
    clear hg hl hi hn k
    unfold b_rat b_rat_0 b_rat_1 b_rat_2
    walk_at "tw"
def b_prat_0 (cr : Nat) : MS := (zIf (kB (kOp eqA (mvar 1) (kC (.int 0)))) (zRaise cr) zNx)
def b_prat_1 : MS := (sasg (kCall gcdD (aCons (mvar 0) (aCons (mvar 1) aNil))) (gnm 2))
def b_prat (cr : Nat) : MS := (sseq (b_prat_0 cr) (sseq b_prat_1 (sseq b_rat_1 b_rat_2)))
def m_prat (cr : Nat) : List D → M D := mdef 3 (b_prat cr)
/-- the program's ratio -/
theorem prat_eq (cr : Nat) (a b : Int) (hb : b ≠ 0) (h9 : b.natAbs.log2 < 9000) : m_prat cr [.int a, .int b] = mret (rd (Rat.divInt a b)) := by
  funext s
  have hg : 0 < Nat.gcd a.natAbs b.natAbs := Nat.gcd_pos_of_pos_right _ (by omega)
  have hl : (Nat.gcd a.natAbs b.natAbs).log2 < 9000 := Nat.lt_of_le_of_lt (log2_le (Nat.le_of_dvd (by omega) (Nat.gcd_dvd_right ..))) h9
  have hi : ((Nat.gcd a.natAbs b.natAbs : Nat) : Int) ≠ 0 := by omega
  have hn : (((Nat.gcd a.natAbs b.natAbs : Nat) : Int)).natAbs.log2 < 9000 := by simpa using hl
  have k := lowered a b hb _ rfl
  refine mdef_ret ?_
  by_cases hneg : b < 0
  · have hn' : (-((Nat.gcd a.natAbs b.natAbs : Nat) : Int)).natAbs.log2 < 9000 := by rw [Int.natAbs_neg]; exact hn
    have hi' : -((Nat.gcd a.natAbs b.natAbs : Nat) : Int) ≠ 0 := by omega
    have f1 := fdv_eq (i := a) hi' hn'
    have f2 := fdv_eq (i := b) hi' hn'
    rw [if_pos hneg] at k
    rw [← k]
    clear hg hl hi hn hi' hn' k
    unfold b_prat b_prat_0 b_prat_1 b_rat_1 b_rat_2
    walk_at "tw"
  · have f1 := fdv_eq (i := a) hi hn
    have f2 := fdv_eq (i := b) hi hn
    rw [if_neg hneg] at k
    rw [← k]
    clear hg hl hi hn k
    unfold b_prat b_prat_0 b_prat_1 b_rat_1 b_rat_2
    walk_at "tw"
theorem rd_one (a : Int) : rd (Rat.divInt a 1) = .tup [.int a, .int 1] := by
  unfold rd
  rw [Rat.num_divInt, Rat.den_divInt]
  simp
end
end Bag
end Tw

set_option Elab.async false
set_option linter.all false
set_option maxRecDepth 100000
set_option maxHeartbeats 4000000
set_option autoImplicit false
namespace K11
open PySem L2 PySem.Spec PyProof.Rows Tw
def topS (i : Nat) : Stmt := PySem.Challenge.pw_fourhinges_k11_motions_measured.main.body.getD i (.Pass ⟨0, 0, 0, 0⟩)
abbrev s__law_take : Stmt := topS 21
abbrev s__law_of : Stmt := topS 22
abbrev s__law_number : Stmt := topS 23
abbrev s__law_gcd : Stmt := topS 24
abbrev s__law_ratio : Stmt := topS 25
abbrev s__law_three : Stmt := topS 26
abbrev s__law_flag : Stmt := topS 27
abbrev s__law_is : Stmt := topS 28
abbrev s_is_number : Stmt := topS 10
abbrev s_Motion___init__ : Stmt := inClass (topS 14) 0
abbrev s__law_refused : Stmt := topS 29
abbrev s__law_number_is : Stmt := topS 30
abbrev s_Motion___add__ : Stmt := inClass (topS 14) 7
abbrev s_Motion___sub__ : Stmt := inClass (topS 14) 8
abbrev s_Motion___neg__ : Stmt := inClass (topS 14) 9
abbrev s_Motion___mul__ : Stmt := inClass (topS 14) 10
abbrev s_Motion___eq__ : Stmt := inClass (topS 14) 11
abbrev s_Force___init__ : Stmt := inClass (topS 16) 0
abbrev s_Motion_is_none : Stmt := inClass (topS 14) 3
abbrev s_Motion_none : Stmt := inClass (topS 14) 1
abbrev s__law_signs : Stmt := topS 31
abbrev s_Motion_turning : Stmt := inClass (topS 14) 2
abbrev s_Motion_at : Stmt := inClass (topS 14) 4
abbrev s_Motion_measure : Stmt := inClass (topS 14) 5
abbrev s_Force_about : Stmt := inClass (topS 16) 5
abbrev s_Force_acting : Stmt := inClass (topS 16) 3
abbrev s__law_points : Stmt := topS 32
abbrev s__law_bag : Stmt := topS 20
abbrev s_ratio : Stmt := topS 12
abbrev s_Motion_measure_of : Stmt := inClass (topS 14) 6
abbrev s_Thrust___init__ : Stmt := inClass (topS 18) 0
abbrev s_law : Stmt := topS 33
abbrev si_BadRatio : Stmt := inClass (topS 4) 0
abbrev si_BadForce : Stmt := inClass (topS 5) 0
abbrev si_BadThrust : Stmt := inClass (topS 6) 0
abbrev si_BadMotion : Stmt := inClass (topS 7) 0
theorem sc__law_take : FnScope ["_law_bag_here", "_law_many", "_law_digit"] ["_law_bag_here", "_law_many"] (defScope s__law_take) := ⟨rfl, rfl, rfl, by decide +kernel, rfl, by decide +kernel, by decide +kernel⟩
theorem sc__law_of : FnScope ["_law_bag_here", "_law_some"] ["_law_bag_here", "_law_some"] (defScope s__law_of) := ⟨rfl, rfl, rfl, by decide +kernel, rfl, by decide +kernel, by decide +kernel⟩
theorem sc__law_number : FnScope ["_law_bag_here", "_law_kind"] ["_law_bag_here"] (defScope s__law_number) := ⟨rfl, rfl, rfl, by decide +kernel, rfl, by decide +kernel, by decide +kernel⟩
theorem sc__law_gcd : FnScope ["_law_numbers", "_law_divisor", "_law_number_here", "_law_one", "_law_other"] ["_law_numbers"] (defScope s__law_gcd) := ⟨rfl, rfl, rfl, by decide +kernel, rfl, by decide +kernel, by decide +kernel⟩
theorem sc__law_ratio : FnScope ["_law_top", "_law_bottom", "_law_divisor"] ["_law_top", "_law_bottom"] (defScope s__law_ratio) := ⟨rfl, rfl, rfl, by decide +kernel, rfl, by decide +kernel, by decide +kernel⟩
theorem sc__law_three : FnScope ["_law_bag_here"] ["_law_bag_here"] (defScope s__law_three) := ⟨rfl, rfl, rfl, by decide +kernel, rfl, by decide +kernel, by decide +kernel⟩
theorem sc__law_flag : FnScope ["_law_thing", "_law_due"] ["_law_thing", "_law_due"] (defScope s__law_flag) := ⟨rfl, rfl, rfl, by decide +kernel, rfl, by decide +kernel, by decide +kernel⟩
theorem sc__law_is : FnScope ["_law_motion", "_law_numbers", "_law_number_here"] ["_law_motion", "_law_numbers"] (defScope s__law_is) := ⟨rfl, rfl, rfl, by decide +kernel, rfl, by decide +kernel, by decide +kernel⟩
theorem sc_is_number : FnScope ["thing"] ["thing"] (defScope s_is_number) := ⟨rfl, rfl, rfl, by decide +kernel, rfl, by decide +kernel, by decide +kernel⟩
theorem sc_Motion___init__ : FnScope ["self", "turn", "across", "up"] ["self", "turn", "across", "up"] (defScope s_Motion___init__) := ⟨rfl, rfl, rfl, by decide +kernel, rfl, by decide +kernel, by decide +kernel⟩
theorem sc__law_refused : FnScope ["_law_numbers", "e"] ["_law_numbers"] (defScope s__law_refused) := ⟨rfl, rfl, rfl, by decide +kernel, rfl, by decide +kernel, by decide +kernel⟩
theorem sc__law_number_is : FnScope ["_law_thing", "_law_number_here"] ["_law_thing", "_law_number_here"] (defScope s__law_number_is) := ⟨rfl, rfl, rfl, by decide +kernel, rfl, by decide +kernel, by decide +kernel⟩
theorem sc_Motion___add__ : FnScope ["self", "other"] ["self", "other"] (defScope s_Motion___add__) := ⟨rfl, rfl, rfl, by decide +kernel, rfl, by decide +kernel, by decide +kernel⟩
theorem sc_Motion___sub__ : FnScope ["self", "other"] ["self", "other"] (defScope s_Motion___sub__) := ⟨rfl, rfl, rfl, by decide +kernel, rfl, by decide +kernel, by decide +kernel⟩
theorem sc_Motion___neg__ : FnScope ["self"] ["self"] (defScope s_Motion___neg__) := ⟨rfl, rfl, rfl, by decide +kernel, rfl, by decide +kernel, by decide +kernel⟩
theorem sc_Motion___mul__ : FnScope ["self", "other"] ["self", "other"] (defScope s_Motion___mul__) := ⟨rfl, rfl, rfl, by decide +kernel, rfl, by decide +kernel, by decide +kernel⟩
theorem sc_Motion___eq__ : FnScope ["self", "other"] ["self", "other"] (defScope s_Motion___eq__) := ⟨rfl, rfl, rfl, by decide +kernel, rfl, by decide +kernel, by decide +kernel⟩
theorem sc_Force___init__ : FnScope ["self", "across", "up", "moment"] ["self", "across", "up", "moment"] (defScope s_Force___init__) := ⟨rfl, rfl, rfl, by decide +kernel, rfl, by decide +kernel, by decide +kernel⟩
theorem sc_Motion_is_none : FnScope ["self"] ["self"] (defScope s_Motion_is_none) := ⟨rfl, rfl, rfl, by decide +kernel, rfl, by decide +kernel, by decide +kernel⟩
theorem sc_Motion_none : FnScope ["cls"] ["cls"] (defScope s_Motion_none) := ⟨rfl, rfl, rfl, by decide +kernel, rfl, by decide +kernel, by decide +kernel⟩
theorem sc__law_signs : FnScope ["_law_a", "_law_b", "_law_times", "_law_one", "_law_other"] ["_law_a", "_law_b", "_law_times"] (defScope s__law_signs) := ⟨rfl, rfl, rfl, by decide +kernel, rfl, by decide +kernel, by decide +kernel⟩
theorem sc_Motion_turning : FnScope ["cls", "point", "turn", "x", "y"] ["cls", "point", "turn"] (defScope s_Motion_turning) := ⟨rfl, rfl, rfl, by decide +kernel, rfl, by decide +kernel, by decide +kernel⟩
theorem sc_Motion_at : FnScope ["self", "point", "x", "y"] ["self", "point"] (defScope s_Motion_at) := ⟨rfl, rfl, rfl, by decide +kernel, rfl, by decide +kernel, by decide +kernel⟩
theorem sc_Motion_measure : FnScope ["self", "force"] ["self", "force"] (defScope s_Motion_measure) := ⟨rfl, rfl, rfl, by decide +kernel, rfl, by decide +kernel, by decide +kernel⟩
theorem sc_Force_about : FnScope ["self", "point", "x", "y"] ["self", "point"] (defScope s_Force_about) := ⟨rfl, rfl, rfl, by decide +kernel, rfl, by decide +kernel, by decide +kernel⟩
theorem sc_Force_acting : FnScope ["cls", "across", "up", "point", "x", "y"] ["cls", "across", "up", "point"] (defScope s_Force_acting) := ⟨rfl, rfl, rfl, by decide +kernel, rfl, by decide +kernel, by decide +kernel⟩
theorem sc__law_points : FnScope ["_law_a", "_law_f", "_law_point", "_law_times", "_law_acting", "_law_x", "_law_y", "_law_one", "_law_turned", "_law_told", "_law_force"] ["_law_a", "_law_f", "_law_point", "_law_times"] (defScope s__law_points) := ⟨rfl, rfl, rfl, by decide +kernel, rfl, by decide +kernel, by decide +kernel⟩
theorem sc__law_bag : FnScope ["_law_script", "_law_at", "_law_cell", "_law_mix", "_law_k", "_law_each"] ["_law_script", "_law_at"] (defScope s__law_bag) := ⟨rfl, rfl, rfl, by decide +kernel, rfl, by decide +kernel, by decide +kernel⟩
theorem sc_ratio : FnScope ["top", "bottom", "divisor"] ["top", "bottom"] (defScope s_ratio) := ⟨rfl, rfl, rfl, by decide +kernel, rfl, by decide +kernel, by decide +kernel⟩
theorem sc_Motion_measure_of : FnScope ["self", "thrust"] ["self", "thrust"] (defScope s_Motion_measure_of) := ⟨rfl, rfl, rfl, by decide +kernel, rfl, by decide +kernel, by decide +kernel⟩
theorem sc_Thrust___init__ : FnScope ["self", "force", "parts", "divisor"] ["self", "force", "parts"] (defScope s_Thrust___init__) := ⟨rfl, rfl, rfl, by decide +kernel, rfl, by decide +kernel, by decide +kernel⟩
theorem sc_law : FnScope ["_law_script", "_law_bag_here", "_law_great", "_law_point", "_law_numbers", "_law_wrong", "_law_a", "_law_b", "_law_f", "_law_g", "_law_times", "_law_parts", "_law_one", "_law_other", "_law_due", "_law_force", "_law_told", "_law_place", "_law_odd"] ["_law_script"] (defScope s_law) := ⟨rfl, rfl, rfl, by decide +kernel, rfl, by decide +kernel, by decide +kernel⟩
theorem sci_BadRatio : FnScope ["self"] ["self"] (defScope si_BadRatio) := ⟨rfl, rfl, rfl, by decide +kernel, rfl, by decide +kernel, by decide +kernel⟩
theorem sci_BadForce : FnScope ["self", "what"] ["self", "what"] (defScope si_BadForce) := ⟨rfl, rfl, rfl, by decide +kernel, rfl, by decide +kernel, by decide +kernel⟩
theorem sci_BadThrust : FnScope ["self"] ["self"] (defScope si_BadThrust) := ⟨rfl, rfl, rfl, by decide +kernel, rfl, by decide +kernel, by decide +kernel⟩
theorem sci_BadMotion : FnScope ["self"] ["self"] (defScope si_BadMotion) := ⟨rfl, rfl, rfl, by decide +kernel, rfl, by decide +kernel, by decide +kernel⟩
structure Ad where
  f__law_take : Addr
  d__law_take : FuncData
  f__law_of : Addr
  d__law_of : FuncData
  f__law_number : Addr
  d__law_number : FuncData
  f__law_gcd : Addr
  d__law_gcd : FuncData
  f__law_ratio : Addr
  d__law_ratio : FuncData
  f__law_three : Addr
  d__law_three : FuncData
  f__law_flag : Addr
  d__law_flag : FuncData
  f__law_is : Addr
  d__law_is : FuncData
  f_is_number : Addr
  d_is_number : FuncData
  f_Motion___init__ : Addr
  d_Motion___init__ : FuncData
  f__law_refused : Addr
  d__law_refused : FuncData
  f__law_number_is : Addr
  d__law_number_is : FuncData
  f_Motion___add__ : Addr
  d_Motion___add__ : FuncData
  f_Motion___sub__ : Addr
  d_Motion___sub__ : FuncData
  f_Motion___neg__ : Addr
  d_Motion___neg__ : FuncData
  f_Motion___mul__ : Addr
  d_Motion___mul__ : FuncData
  f_Motion___eq__ : Addr
  d_Motion___eq__ : FuncData
  f_Force___init__ : Addr
  d_Force___init__ : FuncData
  f_Motion_is_none : Addr
  d_Motion_is_none : FuncData
  p_Motion_is_none : Addr
  f_Motion_none : Addr
  d_Motion_none : FuncData
  p_Motion_none : Addr
  v_Motion_none : Value
  f__law_signs : Addr
  d__law_signs : FuncData
  f_Motion_turning : Addr
  d_Motion_turning : FuncData
  p_Motion_turning : Addr
  v_Motion_turning : Value
  f_Motion_at : Addr
  d_Motion_at : FuncData
  f_Motion_measure : Addr
  d_Motion_measure : FuncData
  f_Force_about : Addr
  d_Force_about : FuncData
  f_Force_acting : Addr
  d_Force_acting : FuncData
  p_Force_acting : Addr
  v_Force_acting : Value
  f__law_points : Addr
  d__law_points : FuncData
  f__law_bag : Addr
  d__law_bag : FuncData
  f_ratio : Addr
  d_ratio : FuncData
  f_Motion_measure_of : Addr
  d_Motion_measure_of : FuncData
  f_Thrust___init__ : Addr
  d_Thrust___init__ : FuncData
  f_law : Addr
  d_law : FuncData
  c_BridgeError : Addr
  c_BadRatio : Addr
  i_BadRatio : Addr
  di_BadRatio : FuncData
  c_BadForce : Addr
  i_BadForce : Addr
  di_BadForce : FuncData
  c_BadThrust : Addr
  i_BadThrust : Addr
  di_BadThrust : FuncData
  c_BadMotion : Addr
  i_BadMotion : Addr
  di_BadMotion : FuncData
  c_BadWeights : Addr
  c_Motion : Addr
  c_Force : Addr
  c_Thrust : Addr
def gt (a : Ad) : Gt := ⟨fun n => match n with
  | 0 => a.c_BridgeError
  | 1 => a.c_BadRatio
  | 2 => a.c_BadForce
  | 3 => a.c_BadThrust
  | 4 => a.c_BadMotion
  | 5 => a.c_BadWeights
  | 6 => a.c_Motion
  | 7 => a.c_Force
  | 8 => a.c_Thrust
  | _ => 0, none⟩
def ans : String ⊕ Nat → String ⊕ Nat → Option Bool := fun t c => match t, c with
  | .inr 7, .inr 7 => some true
  | .inr 7, .inr 6 => some false
  | .inr 7, .inl "bool" => some false
  | .inr 7, .inl "int" => some false
  | .inr 7, .inl "tuple" => some false
  | .inr 6, .inr 7 => some false
  | .inr 6, .inr 6 => some true
  | .inr 6, .inl "bool" => some false
  | .inr 6, .inl "int" => some false
  | .inr 6, .inl "tuple" => some false
  | .inl "NoneType", .inr 7 => some false
  | .inl "NoneType", .inr 6 => some false
  | .inr 8, .inr 7 => some false
  | .inr 8, .inr 6 => some false
  | .inr 8, .inl "bool" => some false
  | .inr 8, .inl "int" => some false
  | .inr 8, .inl "tuple" => some false
  | .inl "bool", .inr 7 => some false
  | .inl "bool", .inr 6 => some false
  | .inl "int", .inr 7 => some false
  | .inl "int", .inr 6 => some false
  | .inl "list", .inr 7 => some false
  | .inl "list", .inr 6 => some false
  | .inl "str", .inr 7 => some false
  | .inl "str", .inr 6 => some false
  | .inl "tuple", .inr 7 => some false
  | .inl "tuple", .inr 6 => some false
  | _, _ => none
def ansE : String ⊕ Nat → String ⊕ Nat → Option Bool := fun t c => match t, c with
  | .inr 2, .inr 4 => some false
  | .inr 2, .inr 5 => some false
  | .inr 2, .inl "ValueError" => some true
  | .inr 4, .inr 4 => some true
  | .inr 4, .inr 5 => some false
  | .inr 4, .inl "ValueError" => some true
  | .inr 1, .inr 4 => some false
  | .inr 1, .inr 5 => some false
  | .inr 1, .inl "ValueError" => some true
  | .inr 3, .inr 4 => some false
  | .inr 3, .inr 5 => some false
  | .inr 3, .inl "ValueError" => some true
  | _, _ => none
def nf_Motion : String ⊕ Nat → Bool := fun t => match t with
  | .inl "NoneType" => true
  | .inl "bool" => true
  | .inl "int" => true
  | .inl "str" => true
  | .inl "list" => true
  | .inl "tuple" => true
  | .inr 6 => true
  | .inr 7 => true
  | .inr 8 => true
  | _ => false
def cf_up : Nat → Bool := fun n => match n with
  | 6 => true
  | 7 => true
  | _ => false
def cf_across : Nat → Bool := fun n => match n with
  | 6 => true
  | 7 => true
  | _ => false
def cf_turn : Nat → Bool := fun n => match n with
  | 6 => true
  | _ => false
def cf_moment : Nat → Bool := fun n => match n with
  | 7 => true
  | _ => false
def cf_parts : Nat → Bool := fun n => match n with
  | 8 => true
  | _ => false
def cf_force : Nat → Bool := fun n => match n with
  | 8 => true
  | _ => false
def mt_BridgeError : Nat → Option Bool := fun n => match n with
  | 1 => some true
  | 2 => some true
  | 3 => some true
  | 4 => some true
  | _ => none
structure Txt (K : PySem.W.Frag) (mg : Str → Option Value) (a : Ad) : Prop where
  t__law_take : FunD K "_law_take" "_law_take" (defArgs s__law_take) (defBody s__law_take) (defScope s__law_take) [] [] a.f__law_take a.d__law_take
  m__law_take : mg "_law_take" = some (.ref a.f__law_take)
  b__law_take : L2.Binds K a.d__law_take ["_law_bag_here", "_law_many"] []
  t__law_of : FunD K "_law_of" "_law_of" (defArgs s__law_of) (defBody s__law_of) (defScope s__law_of) [] [] a.f__law_of a.d__law_of
  m__law_of : mg "_law_of" = some (.ref a.f__law_of)
  b__law_of : L2.Binds K a.d__law_of ["_law_bag_here", "_law_some"] []
  t__law_number : FunD K "_law_number" "_law_number" (defArgs s__law_number) (defBody s__law_number) (defScope s__law_number) [] [] a.f__law_number a.d__law_number
  m__law_number : mg "_law_number" = some (.ref a.f__law_number)
  b__law_number : L2.Binds K a.d__law_number ["_law_bag_here"] []
  t__law_gcd : FunD K "_law_gcd" "_law_gcd" (defArgs s__law_gcd) (defBody s__law_gcd) (defScope s__law_gcd) [] [] a.f__law_gcd a.d__law_gcd
  m__law_gcd : mg "_law_gcd" = some (.ref a.f__law_gcd)
  b__law_gcd : L2.Binds K a.d__law_gcd ["_law_numbers"] []
  t__law_ratio : FunD K "_law_ratio" "_law_ratio" (defArgs s__law_ratio) (defBody s__law_ratio) (defScope s__law_ratio) [] [] a.f__law_ratio a.d__law_ratio
  m__law_ratio : mg "_law_ratio" = some (.ref a.f__law_ratio)
  b__law_ratio : L2.Binds K a.d__law_ratio ["_law_top", "_law_bottom"] []
  t__law_three : FunD K "_law_three" "_law_three" (defArgs s__law_three) (defBody s__law_three) (defScope s__law_three) [] [] a.f__law_three a.d__law_three
  m__law_three : mg "_law_three" = some (.ref a.f__law_three)
  b__law_three : L2.Binds K a.d__law_three ["_law_bag_here"] []
  t__law_flag : FunD K "_law_flag" "_law_flag" (defArgs s__law_flag) (defBody s__law_flag) (defScope s__law_flag) [] [] a.f__law_flag a.d__law_flag
  m__law_flag : mg "_law_flag" = some (.ref a.f__law_flag)
  b__law_flag : L2.Binds K a.d__law_flag ["_law_thing", "_law_due"] []
  t__law_is : FunD K "_law_is" "_law_is" (defArgs s__law_is) (defBody s__law_is) (defScope s__law_is) [] [] a.f__law_is a.d__law_is
  m__law_is : mg "_law_is" = some (.ref a.f__law_is)
  b__law_is : L2.Binds K a.d__law_is ["_law_motion", "_law_numbers"] []
  t_is_number : FunD K "is_number" "is_number" (defArgs s_is_number) (defBody s_is_number) (defScope s_is_number) [] [] a.f_is_number a.d_is_number
  m_is_number : mg "is_number" = some (.ref a.f_is_number)
  b_is_number : L2.Binds K a.d_is_number ["thing"] []
  t_Motion___init__ : FunD K "__init__" "Motion.__init__" (defArgs s_Motion___init__) (defBody s_Motion___init__) (defScope s_Motion___init__) [] [] a.f_Motion___init__ a.d_Motion___init__
  b_Motion___init__ : L2.Binds K a.d_Motion___init__ ["self", "turn", "across", "up"] []
  t__law_refused : FunD K "_law_refused" "_law_refused" (defArgs s__law_refused) (defBody s__law_refused) (defScope s__law_refused) [] [] a.f__law_refused a.d__law_refused
  m__law_refused : mg "_law_refused" = some (.ref a.f__law_refused)
  b__law_refused : L2.Binds K a.d__law_refused ["_law_numbers"] []
  t__law_number_is : FunD K "_law_number_is" "_law_number_is" (defArgs s__law_number_is) (defBody s__law_number_is) (defScope s__law_number_is) [] [] a.f__law_number_is a.d__law_number_is
  m__law_number_is : mg "_law_number_is" = some (.ref a.f__law_number_is)
  b__law_number_is : L2.Binds K a.d__law_number_is ["_law_thing", "_law_number_here"] []
  t_Motion___add__ : FunD K "__add__" "Motion.__add__" (defArgs s_Motion___add__) (defBody s_Motion___add__) (defScope s_Motion___add__) [] [] a.f_Motion___add__ a.d_Motion___add__
  b_Motion___add__ : L2.Binds K a.d_Motion___add__ ["self", "other"] []
  t_Motion___sub__ : FunD K "__sub__" "Motion.__sub__" (defArgs s_Motion___sub__) (defBody s_Motion___sub__) (defScope s_Motion___sub__) [] [] a.f_Motion___sub__ a.d_Motion___sub__
  b_Motion___sub__ : L2.Binds K a.d_Motion___sub__ ["self", "other"] []
  t_Motion___neg__ : FunD K "__neg__" "Motion.__neg__" (defArgs s_Motion___neg__) (defBody s_Motion___neg__) (defScope s_Motion___neg__) [] [] a.f_Motion___neg__ a.d_Motion___neg__
  b_Motion___neg__ : L2.Binds K a.d_Motion___neg__ ["self"] []
  t_Motion___mul__ : FunD K "__mul__" "Motion.__mul__" (defArgs s_Motion___mul__) (defBody s_Motion___mul__) (defScope s_Motion___mul__) [] [] a.f_Motion___mul__ a.d_Motion___mul__
  b_Motion___mul__ : L2.Binds K a.d_Motion___mul__ ["self", "other"] []
  t_Motion___eq__ : FunD K "__eq__" "Motion.__eq__" (defArgs s_Motion___eq__) (defBody s_Motion___eq__) (defScope s_Motion___eq__) [] [] a.f_Motion___eq__ a.d_Motion___eq__
  b_Motion___eq__ : L2.Binds K a.d_Motion___eq__ ["self", "other"] []
  t_Force___init__ : FunD K "__init__" "Force.__init__" (defArgs s_Force___init__) (defBody s_Force___init__) (defScope s_Force___init__) [] [] a.f_Force___init__ a.d_Force___init__
  b_Force___init__ : L2.Binds K a.d_Force___init__ ["self", "across", "up", "moment"] []
  t_Motion_is_none : FunD K "is_none" "Motion.is_none" (defArgs s_Motion_is_none) (defBody s_Motion_is_none) (defScope s_Motion_is_none) [] [] a.f_Motion_is_none a.d_Motion_is_none
  b_Motion_is_none : L2.Binds K a.d_Motion_is_none ["self"] []
  t_Motion_none : FunD K "none" "Motion.none" (defArgs s_Motion_none) (defBody s_Motion_none) (defScope s_Motion_none) [] [] a.f_Motion_none a.d_Motion_none
  b_Motion_none : L2.Binds K a.d_Motion_none ["cls"] []
  t__law_signs : FunD K "_law_signs" "_law_signs" (defArgs s__law_signs) (defBody s__law_signs) (defScope s__law_signs) [] [] a.f__law_signs a.d__law_signs
  m__law_signs : mg "_law_signs" = some (.ref a.f__law_signs)
  b__law_signs : L2.Binds K a.d__law_signs ["_law_a", "_law_b", "_law_times"] []
  t_Motion_turning : FunD K "turning" "Motion.turning" (defArgs s_Motion_turning) (defBody s_Motion_turning) (defScope s_Motion_turning) [.int 1] [] a.f_Motion_turning a.d_Motion_turning
  b_Motion_turning : L2.Binds K a.d_Motion_turning ["cls", "point", "turn"] []
  bd1_Motion_turning : ∃ dl, Vals [.int 1] dl ∧ L2.Binds K a.d_Motion_turning ["cls", "point", "turn"] dl
  t_Motion_at : FunD K "at" "Motion.at" (defArgs s_Motion_at) (defBody s_Motion_at) (defScope s_Motion_at) [] [] a.f_Motion_at a.d_Motion_at
  b_Motion_at : L2.Binds K a.d_Motion_at ["self", "point"] []
  t_Motion_measure : FunD K "measure" "Motion.measure" (defArgs s_Motion_measure) (defBody s_Motion_measure) (defScope s_Motion_measure) [] [] a.f_Motion_measure a.d_Motion_measure
  b_Motion_measure : L2.Binds K a.d_Motion_measure ["self", "force"] []
  t_Force_about : FunD K "about" "Force.about" (defArgs s_Force_about) (defBody s_Force_about) (defScope s_Force_about) [] [] a.f_Force_about a.d_Force_about
  b_Force_about : L2.Binds K a.d_Force_about ["self", "point"] []
  t_Force_acting : FunD K "acting" "Force.acting" (defArgs s_Force_acting) (defBody s_Force_acting) (defScope s_Force_acting) [] [] a.f_Force_acting a.d_Force_acting
  b_Force_acting : L2.Binds K a.d_Force_acting ["cls", "across", "up", "point"] []
  t__law_points : FunD K "_law_points" "_law_points" (defArgs s__law_points) (defBody s__law_points) (defScope s__law_points) [] [] a.f__law_points a.d__law_points
  m__law_points : mg "_law_points" = some (.ref a.f__law_points)
  b__law_points : L2.Binds K a.d__law_points ["_law_a", "_law_f", "_law_point", "_law_times"] []
  t__law_bag : FunD K "_law_bag" "_law_bag" (defArgs s__law_bag) (defBody s__law_bag) (defScope s__law_bag) [] [] a.f__law_bag a.d__law_bag
  m__law_bag : mg "_law_bag" = some (.ref a.f__law_bag)
  b__law_bag : L2.Binds K a.d__law_bag ["_law_script", "_law_at"] []
  t_ratio : FunD K "ratio" "ratio" (defArgs s_ratio) (defBody s_ratio) (defScope s_ratio) [] [] a.f_ratio a.d_ratio
  m_ratio : mg "ratio" = some (.ref a.f_ratio)
  b_ratio : L2.Binds K a.d_ratio ["top", "bottom"] []
  t_Motion_measure_of : FunD K "measure_of" "Motion.measure_of" (defArgs s_Motion_measure_of) (defBody s_Motion_measure_of) (defScope s_Motion_measure_of) [] [] a.f_Motion_measure_of a.d_Motion_measure_of
  b_Motion_measure_of : L2.Binds K a.d_Motion_measure_of ["self", "thrust"] []
  t_Thrust___init__ : FunD K "__init__" "Thrust.__init__" (defArgs s_Thrust___init__) (defBody s_Thrust___init__) (defScope s_Thrust___init__) [.int 1] [] a.f_Thrust___init__ a.d_Thrust___init__
  b_Thrust___init__ : L2.Binds K a.d_Thrust___init__ ["self", "force", "parts"] []
  bd1_Thrust___init__ : ∃ dl, Vals [.int 1] dl ∧ L2.Binds K a.d_Thrust___init__ ["self", "force", "parts"] dl
  t_law : FunD K "law" "law" (defArgs s_law) (defBody s_law) (defScope s_law) [] [] a.f_law a.d_law
  m_law : mg "law" = some (.ref a.f_law)
  b_law : L2.Binds K a.d_law ["_law_script"] []
  m_BridgeError : mg "BridgeError" = some (.ref a.c_BridgeError)
  m_BadRatio : mg "BadRatio" = some (.ref a.c_BadRatio)
  m_BadForce : mg "BadForce" = some (.ref a.c_BadForce)
  m_BadThrust : mg "BadThrust" = some (.ref a.c_BadThrust)
  m_BadMotion : mg "BadMotion" = some (.ref a.c_BadMotion)
  m_BadWeights : mg "BadWeights" = some (.ref a.c_BadWeights)
  m_Motion : mg "Motion" = some (.ref a.c_Motion)
  m_Force : mg "Force" = some (.ref a.c_Force)
  m_Thrust : mg "Thrust" = some (.ref a.c_Thrust)
  cl_Motion : L2.Cls K a.c_Motion
  na_Motion_up : L2.NoAttr K a.c_Motion "up"
  na_Motion_across : L2.NoAttr K a.c_Motion "across"
  na_Motion_turn : L2.NoAttr K a.c_Motion "turn"
  cl_Force : L2.Cls K a.c_Force
  na_Force_up : L2.NoAttr K a.c_Force "up"
  na_Force_across : L2.NoAttr K a.c_Force "across"
  na_Force_moment : L2.NoAttr K a.c_Force "moment"
  cl_Thrust : L2.Cls K a.c_Thrust
  na_Thrust_parts : L2.NoAttr K a.c_Thrust "parts"
  na_Thrust_force : L2.NoAttr K a.c_Thrust "force"
  mk_Motion : MkC K mg "Motion" a.c_Motion a.f_Motion___init__ a.d_Motion___init__ ["self", "turn", "across", "up"] []
  mk_Force : MkC K mg "Force" a.c_Force a.f_Force___init__ a.d_Force___init__ ["self", "across", "up", "moment"] []
  mk_Thrust : MkC K mg "Thrust" a.c_Thrust a.f_Thrust___init__ a.d_Thrust___init__ ["self", "force", "parts"] []
  mk1_Thrust : MkC K mg "Thrust" a.c_Thrust a.f_Thrust___init__ a.d_Thrust___init__ ["self", "force", "parts"] bd1_Thrust___init__.choose
  op_Motion___add__ : Opr K a.c_Motion .Add a.f_Motion___add__ a.d_Motion___add__ ["self", "other"]
  op_Motion___sub__ : Opr K a.c_Motion .Sub a.f_Motion___sub__ a.d_Motion___sub__ ["self", "other"]
  op_Motion___mul__ : Opr K a.c_Motion .Mult a.f_Motion___mul__ a.d_Motion___mul__ ["self", "other"]
  oi_Motion___mul__ : OprI K a.c_Motion .Mult
  ng_Motion___neg__ : Ong K a.c_Motion a.f_Motion___neg__ a.d_Motion___neg__ ["self"]
  eq_Motion___eq__ : Oeq K a.c_Motion a.f_Motion___eq__ a.d_Motion___eq__ ["self", "other"]
  nq_Motion_NoneType : PySem.W.notFirst K a.c_Motion (.type "NoneType") = true
  nq_Motion_bool : PySem.W.notFirst K a.c_Motion (.type "bool") = true
  nq_Motion_int : PySem.W.notFirst K a.c_Motion (.type "int") = true
  nq_Motion_str : PySem.W.notFirst K a.c_Motion (.type "str") = true
  nq_Motion_list : PySem.W.notFirst K a.c_Motion (.type "list") = true
  nq_Motion_tuple : PySem.W.notFirst K a.c_Motion (.type "tuple") = true
  nq_Motion_Motion : PySem.W.notFirst K a.c_Motion (.ref a.c_Motion) = true
  nq_Motion_Force : PySem.W.notFirst K a.c_Motion (.ref a.c_Force) = true
  nq_Motion_Thrust : PySem.W.notFirst K a.c_Motion (.ref a.c_Thrust) = true
  pr_Motion_is_none : Prp K a.c_Motion "is_none" ["self"] a.p_Motion_is_none a.f_Motion_is_none a.d_Motion_is_none
  cm_Motion_none : Cmt K a.c_Motion "none" ["cls"] [] a.v_Motion_none a.p_Motion_none a.f_Motion_none a.d_Motion_none
  cm_Motion_turning : Cmt K a.c_Motion "turning" ["cls", "point", "turn"] [] a.v_Motion_turning a.p_Motion_turning a.f_Motion_turning a.d_Motion_turning
  cm1_Motion_turning : Cmt K a.c_Motion "turning" ["cls", "point", "turn"] bd1_Motion_turning.choose a.v_Motion_turning a.p_Motion_turning a.f_Motion_turning a.d_Motion_turning
  cm_Force_acting : Cmt K a.c_Force "acting" ["cls", "across", "up", "point"] [] a.v_Force_acting a.p_Force_acting a.f_Force_acting a.d_Force_acting
  mt_Motion_at : Mtd K a.c_Motion "at" ["self", "point"] [] a.f_Motion_at a.d_Motion_at
  mt_Motion_measure : Mtd K a.c_Motion "measure" ["self", "force"] [] a.f_Motion_measure a.d_Motion_measure
  mt_Force_about : Mtd K a.c_Force "about" ["self", "point"] [] a.f_Force_about a.d_Force_about
  mt_Motion_measure_of : Mtd K a.c_Motion "measure_of" ["self", "thrust"] [] a.f_Motion_measure_of a.d_Motion_measure_of
  e_BadRatio : Err0 K mg "BadRatio" a.c_BadRatio a.i_BadRatio si_BadRatio "BadRatio.__init__" a.di_BadRatio
  e_BadForce : ErrN K mg "BadForce" a.c_BadForce a.i_BadForce si_BadForce "BadForce.__init__" a.di_BadForce ["self", "what"]
  xn_BadForce_what : PySem.W.findIn K (.ref a.c_BadForce) "what" = some none
  e_BadThrust : Err0 K mg "BadThrust" a.c_BadThrust a.i_BadThrust si_BadThrust "BadThrust.__init__" a.di_BadThrust
  e_BadMotion : Err0 K mg "BadMotion" a.c_BadMotion a.i_BadMotion si_BadMotion "BadMotion.__init__" a.di_BadMotion
  xm_BadRatio_BridgeError : PySem.W.exmOne K (.ref a.c_BadRatio) (.ref a.c_BridgeError) = some true
  xm_BadForce_BridgeError : PySem.W.exmOne K (.ref a.c_BadForce) (.ref a.c_BridgeError) = some true
  xm_BadThrust_BridgeError : PySem.W.exmOne K (.ref a.c_BadThrust) (.ref a.c_BridgeError) = some true
  xm_BadMotion_BridgeError : PySem.W.exmOne K (.ref a.c_BadMotion) (.ref a.c_BridgeError) = some true
  y_BadForce : ExcC K a.c_BadForce
  y_BadMotion : ExcC K a.c_BadMotion
  y_BadRatio : ExcC K a.c_BadRatio
  y_BadThrust : ExcC K a.c_BadThrust
  kt_BadForce_BadMotion : PySem.W.kitOne K (.ref a.c_BadForce) (.ref a.c_BadMotion) = some false
  kt_BadForce_BadWeights : PySem.W.kitOne K (.ref a.c_BadForce) (.ref a.c_BadWeights) = some false
  kt_BadForce_ValueError : PySem.W.kitOne K (.ref a.c_BadForce) (.type "ValueError") = some true
  kt_BadMotion_BadMotion : PySem.W.kitOne K (.ref a.c_BadMotion) (.ref a.c_BadMotion) = some true
  kt_BadMotion_BadWeights : PySem.W.kitOne K (.ref a.c_BadMotion) (.ref a.c_BadWeights) = some false
  kt_BadMotion_ValueError : PySem.W.kitOne K (.ref a.c_BadMotion) (.type "ValueError") = some true
  kt_BadRatio_BadMotion : PySem.W.kitOne K (.ref a.c_BadRatio) (.ref a.c_BadMotion) = some false
  kt_BadRatio_BadWeights : PySem.W.kitOne K (.ref a.c_BadRatio) (.ref a.c_BadWeights) = some false
  kt_BadRatio_ValueError : PySem.W.kitOne K (.ref a.c_BadRatio) (.type "ValueError") = some true
  kt_BadThrust_BadMotion : PySem.W.kitOne K (.ref a.c_BadThrust) (.ref a.c_BadMotion) = some false
  kt_BadThrust_BadWeights : PySem.W.kitOne K (.ref a.c_BadThrust) (.ref a.c_BadWeights) = some false
  kt_BadThrust_ValueError : PySem.W.kitOne K (.ref a.c_BadThrust) (.type "ValueError") = some true
  kt_Force_Force : PySem.W.kitOne K (.ref a.c_Force) (.ref a.c_Force) = some true
  kt_Force_Motion : PySem.W.kitOne K (.ref a.c_Force) (.ref a.c_Motion) = some false
  kt_Force_bool : PySem.W.kitOne K (.ref a.c_Force) (.type "bool") = some false
  kt_Force_int : PySem.W.kitOne K (.ref a.c_Force) (.type "int") = some false
  kt_Force_tuple : PySem.W.kitOne K (.ref a.c_Force) (.type "tuple") = some false
  kt_Motion_Force : PySem.W.kitOne K (.ref a.c_Motion) (.ref a.c_Force) = some false
  kt_Motion_Motion : PySem.W.kitOne K (.ref a.c_Motion) (.ref a.c_Motion) = some true
  kt_Motion_bool : PySem.W.kitOne K (.ref a.c_Motion) (.type "bool") = some false
  kt_Motion_int : PySem.W.kitOne K (.ref a.c_Motion) (.type "int") = some false
  kt_Motion_tuple : PySem.W.kitOne K (.ref a.c_Motion) (.type "tuple") = some false
  kt_NoneType_Force : PySem.W.kitOne K (.type "NoneType") (.ref a.c_Force) = some false
  kt_NoneType_Motion : PySem.W.kitOne K (.type "NoneType") (.ref a.c_Motion) = some false
  kt_Thrust_Force : PySem.W.kitOne K (.ref a.c_Thrust) (.ref a.c_Force) = some false
  kt_Thrust_Motion : PySem.W.kitOne K (.ref a.c_Thrust) (.ref a.c_Motion) = some false
  kt_Thrust_bool : PySem.W.kitOne K (.ref a.c_Thrust) (.type "bool") = some false
  kt_Thrust_int : PySem.W.kitOne K (.ref a.c_Thrust) (.type "int") = some false
  kt_Thrust_tuple : PySem.W.kitOne K (.ref a.c_Thrust) (.type "tuple") = some false
  kt_bool_Force : PySem.W.kitOne K (.type "bool") (.ref a.c_Force) = some false
  kt_bool_Motion : PySem.W.kitOne K (.type "bool") (.ref a.c_Motion) = some false
  kt_int_Force : PySem.W.kitOne K (.type "int") (.ref a.c_Force) = some false
  kt_int_Motion : PySem.W.kitOne K (.type "int") (.ref a.c_Motion) = some false
  kt_list_Force : PySem.W.kitOne K (.type "list") (.ref a.c_Force) = some false
  kt_list_Motion : PySem.W.kitOne K (.type "list") (.ref a.c_Motion) = some false
  kt_str_Force : PySem.W.kitOne K (.type "str") (.ref a.c_Force) = some false
  kt_str_Motion : PySem.W.kitOne K (.type "str") (.ref a.c_Motion) = some false
  kt_tuple_Force : PySem.W.kitOne K (.type "tuple") (.ref a.c_Force) = some false
  kt_tuple_Motion : PySem.W.kitOne K (.type "tuple") (.ref a.c_Motion) = some false
  isc_Force : Isc K a.c_Force
  isc_Motion : Isc K a.c_Motion
  isc_Thrust : Isc K a.c_Thrust
  n_ValueError : mg "ValueError" = none
  n_abs : mg "abs" = none
  n_bool : mg "bool" = none
  n_enumerate : mg "enumerate" = none
  n_int : mg "int" = none
  n_isinstance : mg "isinstance" = none
  n_len : mg "len" = none
  n_list : mg "list" = none
  n_tuple : mg "tuple" = none
  g_gcd : mg "gcd" = some (.builtin "math.gcd")
noncomputable section
variable {P : Program} {w : World} {K : PySem.W.Frag} {mg : Str → Option Value} {base : Heap} {a : Ad}
theorem isaO (T : Txt K mg a) : ∀ t c b, ans t c = some b → PySem.W.kitOne K (tyV (gt a) t) (tyV (gt a) c) = some b := by
  intro t c b h
  unfold ans at h
  split at h
  · cases h; exact T.kt_Force_Force
  · cases h; exact T.kt_Force_Motion
  · cases h; exact T.kt_Force_bool
  · cases h; exact T.kt_Force_int
  · cases h; exact T.kt_Force_tuple
  · cases h; exact T.kt_Motion_Force
  · cases h; exact T.kt_Motion_Motion
  · cases h; exact T.kt_Motion_bool
  · cases h; exact T.kt_Motion_int
  · cases h; exact T.kt_Motion_tuple
  · cases h; exact T.kt_NoneType_Force
  · cases h; exact T.kt_NoneType_Motion
  · cases h; exact T.kt_Thrust_Force
  · cases h; exact T.kt_Thrust_Motion
  · cases h; exact T.kt_Thrust_bool
  · cases h; exact T.kt_Thrust_int
  · cases h; exact T.kt_Thrust_tuple
  · cases h; exact T.kt_bool_Force
  · cases h; exact T.kt_bool_Motion
  · cases h; exact T.kt_int_Force
  · cases h; exact T.kt_int_Motion
  · cases h; exact T.kt_list_Force
  · cases h; exact T.kt_list_Motion
  · cases h; exact T.kt_str_Force
  · cases h; exact T.kt_str_Motion
  · cases h; exact T.kt_tuple_Force
  · cases h; exact T.kt_tuple_Motion
  · cases h
theorem isaE (T : Txt K mg a) : ∀ t c b, ansE t c = some b → PySem.W.kitOne K (tyV (gt a) t) (tyV (gt a) c) = some b := by
  intro t c b h
  unfold ansE at h
  split at h
  · cases h; exact T.kt_BadForce_BadMotion
  · cases h; exact T.kt_BadForce_BadWeights
  · cases h; exact T.kt_BadForce_ValueError
  · cases h; exact T.kt_BadMotion_BadMotion
  · cases h; exact T.kt_BadMotion_BadWeights
  · cases h; exact T.kt_BadMotion_ValueError
  · cases h; exact T.kt_BadRatio_BadMotion
  · cases h; exact T.kt_BadRatio_BadWeights
  · cases h; exact T.kt_BadRatio_ValueError
  · cases h; exact T.kt_BadThrust_BadMotion
  · cases h; exact T.kt_BadThrust_BadWeights
  · cases h; exact T.kt_BadThrust_ValueError
  · cases h
theorem isa (T : Txt K mg a) : IsA (gt a) K ans := by
  refine ⟨isaO T, ?_⟩
  intro n c b h
  unfold ans at h
  split at h
  · rename_i hn; cases hn; exact T.isc_Force
  · rename_i hn; cases hn; exact T.isc_Force
  · rename_i hn; cases hn; exact T.isc_Force
  · rename_i hn; cases hn; exact T.isc_Force
  · rename_i hn; cases hn; exact T.isc_Force
  · rename_i hn; cases hn; exact T.isc_Motion
  · rename_i hn; cases hn; exact T.isc_Motion
  · rename_i hn; cases hn; exact T.isc_Motion
  · rename_i hn; cases hn; exact T.isc_Motion
  · rename_i hn; cases hn; exact T.isc_Motion
  · rename_i hn; cases hn
  · rename_i hn; cases hn
  · rename_i hn; cases hn; exact T.isc_Thrust
  · rename_i hn; cases hn; exact T.isc_Thrust
  · rename_i hn; cases hn; exact T.isc_Thrust
  · rename_i hn; cases hn; exact T.isc_Thrust
  · rename_i hn; cases hn; exact T.isc_Thrust
  · rename_i hn; cases hn
  · rename_i hn; cases hn
  · rename_i hn; cases hn
  · rename_i hn; cases hn
  · rename_i hn; cases hn
  · rename_i hn; cases hn
  · rename_i hn; cases hn
  · rename_i hn; cases hn
  · rename_i hn; cases hn
  · rename_i hn; cases hn
  · cases h
theorem nfk_Motion (T : Txt K mg a) : ∀ t, nf_Motion t = true → PySem.W.notFirst K ((gt a).cls 6) (tyV (gt a) t) = true := by
  intro t h
  unfold nf_Motion at h
  split at h
  · exact T.nq_Motion_NoneType
  · exact T.nq_Motion_bool
  · exact T.nq_Motion_int
  · exact T.nq_Motion_str
  · exact T.nq_Motion_list
  · exact T.nq_Motion_tuple
  · exact T.nq_Motion_Motion
  · exact T.nq_Motion_Force
  · exact T.nq_Motion_Thrust
  · cases h
theorem fk_up (T : Txt K mg a) : FldOk (gt a) K "up" cf_up := by
  intro n h
  unfold cf_up at h
  split at h
  · exact ⟨T.cl_Motion, T.na_Motion_up⟩
  · exact ⟨T.cl_Force, T.na_Force_up⟩
  · cases h
theorem fk_across (T : Txt K mg a) : FldOk (gt a) K "across" cf_across := by
  intro n h
  unfold cf_across at h
  split at h
  · exact ⟨T.cl_Motion, T.na_Motion_across⟩
  · exact ⟨T.cl_Force, T.na_Force_across⟩
  · cases h
theorem fk_turn (T : Txt K mg a) : FldOk (gt a) K "turn" cf_turn := by
  intro n h
  unfold cf_turn at h
  split at h
  · exact ⟨T.cl_Motion, T.na_Motion_turn⟩
  · cases h
theorem fk_moment (T : Txt K mg a) : FldOk (gt a) K "moment" cf_moment := by
  intro n h
  unfold cf_moment at h
  split at h
  · exact ⟨T.cl_Force, T.na_Force_moment⟩
  · cases h
theorem fk_parts (T : Txt K mg a) : FldOk (gt a) K "parts" cf_parts := by
  intro n h
  unfold cf_parts at h
  split at h
  · exact ⟨T.cl_Thrust, T.na_Thrust_parts⟩
  · cases h
theorem fk_force (T : Txt K mg a) : FldOk (gt a) K "force" cf_force := by
  intro n h
  unfold cf_force at h
  split at h
  · exact ⟨T.cl_Thrust, T.na_Thrust_force⟩
  · cases h
theorem hmt_BridgeError (T : Txt K mg a) : ∀ c b, mt_BridgeError c = some b → PySem.W.exmOne K (.ref ((gt a).cls c)) (.ref ((gt a).cls 0)) = some b := by
  intro c b h
  unfold mt_BridgeError at h
  split at h
  · cases h; exact T.xm_BadRatio_BridgeError
  · cases h; exact T.xm_BadForce_BridgeError
  · cases h; exact T.xm_BadThrust_BridgeError
  · cases h; exact T.xm_BadMotion_BridgeError
  · cases h
theorem ec_BridgeError (T : Txt K mg a) {c : Nat} (h : mt_BridgeError c = some true) : ExcC K ((gt a).cls c) := by
  unfold mt_BridgeError at h
  split at h
  · exact T.y_BadRatio
  · exact T.y_BadForce
  · exact T.y_BadThrust
  · exact T.y_BadMotion
  · cases h
theorem xf_BridgeError (T : Txt K mg a) {c : Nat} (h : mt_BridgeError c = some true) : XfC K ((gt a).cls c) := ⟨(ec_BridgeError T h).hg, (ec_BridgeError T h).hk, (ec_BridgeError T h).hs, (ec_BridgeError T h).hd⟩
theorem oke_BadForce (T : Txt K mg a) : FnOk P w K mg base (L2.CX P w) 1 a.i_BadForce a.di_BadForce ["self", "what"] (spX1 a.c_BadForce "what") := ok_x1 T.e_BadForce.fn sci_BadForce rfl T.e_BadForce.ox T.xn_BadForce_what
def b__law_take_0 : MS := (zIf (kB (kOp gtI (bagGet (mvar 0) .rest) (kC (.int 0)))) (sseq (sasg (kOp fmdI (kCall intD (aCons (bagGet (mvar 0) .rest) aNil)) (mvar 1)) (gnm 2)) (sseq (bagPut (mvar 0) (kOp fdvI (bagGet (mvar 0) .rest) (mvar 1)) .rest) (zRet (mvar 2)))) zNx)
def b__law_take_1 : MS := (bagPut (mvar 0) (kOp addIL (bagGet (mvar 0) .turn) (kC (.int 1))) .turn)
def b__law_take_2 : MS := (bagPut (mvar 0) (kOp fmdI (kCall intD (aCons (kOp addIL (kOp addIL (kOp mulI (bagGet (mvar 0) .seed) (kC (.int 48271))) (kOp mulI (kC (.int 11)) (bagGet (mvar 0) .turn))) (kC (.int 7))) aNil)) (kC (.int 2147483647))) .seed)
def b__law_take_3 : MS := (zRet (kOp fmdI (kOp fdvI (kOp fmdI (kCall intD (aCons (kOp mulI (bagGet (mvar 0) .seed) (kC (.int 16807))) aNil)) (kC (.int 2147483629))) (kC (.int 64))) (mvar 1)))
def b__law_take : MS := (sseq b__law_take_0 (sseq b__law_take_1 (sseq b__law_take_2 b__law_take_3)))
def m__law_take : List D → M D := mdef 3 b__law_take
theorem ok__law_take (T : Txt K mg a) : FnOk P w K mg base (L2.CX P w) 1 a.f__law_take a.d__law_take ["_law_bag_here", "_law_many"] (spM (gt a) 2 m__law_take) :=
  ok_fd T.t__law_take sc__law_take rfl fun cdv A outer s H E hr => by
    have tk0 := takes_of (X := (cxOf (L2.CX P w) P w K mg base ["_law_bag_here", "_law_many", "_law_digit"] "_law_take" (defScope s__law_take) a.f__law_take cdv A outer s H E)) (E := E) rfl rfl rfl rfl
    have po0 : PassesOwn (model P w) (cxOf (L2.CX P w) P w K mg base ["_law_bag_here", "_law_many", "_law_digit"] "_law_take" (defScope s__law_take) a.f__law_take cdv A outer s H E).A (cxOf (L2.CX P w) P w K mg base ["_law_bag_here", "_law_many", "_law_digit"] "_law_take" (defScope s__law_take) a.f__law_take cdv A outer s H E).env (cxOf (L2.CX P w) P w K mg base ["_law_bag_here", "_law_many", "_law_digit"] "_law_take" (defScope s__law_take) a.f__law_take cdv A outer s H E).xe := passes_of rfl
    exact ⟨_, (dss_cons (z_if (q_cmp op_gt prim_gt (de_bagGet .rest rfl (de_var 0) rfl) x_int) (dss_cons (ds_set (i := 2) sc__law_take.nd (x_op op_modN prim_fmd (x_callTy call_int1 prim_int T.n_int (by decide +kernel) (a_cons (de_bagGet .rest rfl (de_var 0) rfl) a_nil)) (de_var 1))) (dss_cons (ds_bagPut .rest (de_var 0) (x_op op_fdivX prim_fdv (de_bagGet .rest rfl (de_var 0) rfl) (de_var 1)) rfl) (dss_one (z_ret (de_var 2))))) z_nil) (dss_cons (ds_bagPut .turn (de_var 0) (x_op (op_add.or op_cat) prim_addIL (de_bagGet .turn rfl (de_var 0) rfl) x_int) rfl) (dss_cons (ds_bagPut .seed (de_var 0) (x_op op_modN prim_fmd (x_callTy call_int1 prim_int T.n_int (by decide +kernel) (a_cons (x_op (op_add.or op_cat) prim_addIL (x_op (op_add.or op_cat) prim_addIL (x_op op_mulX prim_mul (de_bagGet .seed rfl (de_var 0) rfl) x_int) (x_op op_mulX prim_mul x_int (de_bagGet .turn rfl (de_var 0) rfl))) x_int) a_nil)) x_int) rfl) (dss_one (z_ret (x_op op_modN prim_fmd (x_op op_fdivX prim_fdv (x_op op_modN prim_fmd (x_callTy call_int1 prim_int T.n_int (by decide +kernel) (a_cons (x_op op_mulX prim_mul (de_bagGet .seed rfl (de_var 0) rfl) x_int) a_nil)) x_int) x_int) (de_var 1)))))))⟩

def b__law_of : MS := (zRet (kOp itemD (mvar 1) (kCall m__law_take (aCons (mvar 0) (aCons (kCall lenD (aCons (mvar 1) aNil)) aNil)))))
def m__law_of : List D → M D := mdef 2 b__law_of
theorem ok__law_of (T : Txt K mg a) : FnOk P w K mg base (L2.CX P w) 2 a.f__law_of a.d__law_of ["_law_bag_here", "_law_some"] (spM (gt a) 2 m__law_of) :=
  ok_fd T.t__law_of sc__law_of rfl fun cdv A outer s H E hr => by
    have tk0 := takes_of (X := (cxOf (L2.CX P w) P w K mg base ["_law_bag_here", "_law_some"] "_law_of" (defScope s__law_of) a.f__law_of cdv A outer s H E)) (E := E) rfl rfl rfl rfl
    have po0 : PassesOwn (model P w) (cxOf (L2.CX P w) P w K mg base ["_law_bag_here", "_law_some"] "_law_of" (defScope s__law_of) a.f__law_of cdv A outer s H E).A (cxOf (L2.CX P w) P w K mg base ["_law_bag_here", "_law_some"] "_law_of" (defScope s__law_of) a.f__law_of cdv A outer s H E).env (cxOf (L2.CX P w) P w K mg base ["_law_bag_here", "_law_some"] "_law_of" (defScope s__law_of) a.f__law_of cdv A outer s H E).xe := passes_of rfl
    exact ⟨_, (dss_one (z_ret (x_ix rfl (de_var 1) (x_call (ok__law_take T) (hr.mono (by decide)) tk0 T.m__law_take T.t__law_take.kp T.b__law_take (a_cons (de_var 0) (a_cons (x_callB (cr_len rfl) (prim_len) T.n_len (by decide +kernel) (a_cons (de_var 1) a_nil)) a_nil)) (l_cons (l_cons l_nil))))))⟩

def b__law_number_0 : MS := (sasg (kCall m__law_take (aCons (mvar 0) (aCons (kC (.int 5)) aNil))) (gnm 1))
def b__law_number_1 : MS := (zIf (kB (kOp eqA (mvar 1) (kC (.int 0)))) (zRet (kOp subI (kCall m__law_take (aCons (mvar 0) (aCons (kC (.int 2001)) aNil))) (kC (.int 1000)))) zNx)
def b__law_number_2 : MS := (zIf (kB (kOp eqA (mvar 1) (kC (.int 1)))) (zRet (kOp subI (kCall m__law_take (aCons (mvar 0) (aCons (kOp addIL (kOp mulI (kC (.int 2)) (kOp powI (kC (.int 10)) (kC (.int 30)))) (kC (.int 1))) aNil))) (kOp powI (kC (.int 10)) (kC (.int 30))))) zNx)
def b__law_number_3 : MS := (zRet (kOp subI (kCall m__law_take (aCons (mvar 0) (aCons (kC (.int 7)) aNil))) (kC (.int 3))))
def b__law_number : MS := (sseq b__law_number_0 (sseq b__law_number_1 (sseq b__law_number_2 b__law_number_3)))
def m__law_number : List D → M D := mdef 2 b__law_number
theorem ok__law_number (T : Txt K mg a) : FnOk P w K mg base (L2.CX P w) 2 a.f__law_number a.d__law_number ["_law_bag_here"] (spM (gt a) 1 m__law_number) :=
  ok_fd T.t__law_number sc__law_number rfl fun cdv A outer s H E hr => by
    have tk0 := takes_of (X := (cxOf (L2.CX P w) P w K mg base ["_law_bag_here", "_law_kind"] "_law_number" (defScope s__law_number) a.f__law_number cdv A outer s H E)) (E := E) rfl rfl rfl rfl
    have po0 : PassesOwn (model P w) (cxOf (L2.CX P w) P w K mg base ["_law_bag_here", "_law_kind"] "_law_number" (defScope s__law_number) a.f__law_number cdv A outer s H E).A (cxOf (L2.CX P w) P w K mg base ["_law_bag_here", "_law_kind"] "_law_number" (defScope s__law_number) a.f__law_number cdv A outer s H E).env (cxOf (L2.CX P w) P w K mg base ["_law_bag_here", "_law_kind"] "_law_number" (defScope s__law_number) a.f__law_number cdv A outer s H E).xe := passes_of rfl
    exact ⟨_, (dss_cons (ds_set (i := 1) sc__law_number.nd (x_call (ok__law_take T) (hr.mono (by decide)) tk0 T.m__law_take T.t__law_take.kp T.b__law_take (a_cons (de_var 0) (a_cons x_int a_nil)) (l_cons (l_cons l_nil)))) (dss_cons (z_if (q_cmp (op_eqA rfl hr.units) prim_eq (de_var 1) x_int) (dss_one (z_ret (x_op op_sub prim_sub (x_call (ok__law_take T) (hr.mono (by decide)) tk0 T.m__law_take T.t__law_take.kp T.b__law_take (a_cons (de_var 0) (a_cons x_int a_nil)) (l_cons (l_cons l_nil))) x_int))) z_nil) (dss_cons (z_if (q_cmp (op_eqA rfl hr.units) prim_eq (de_var 1) x_int) (dss_one (z_ret (x_op op_sub prim_sub (x_call (ok__law_take T) (hr.mono (by decide)) tk0 T.m__law_take T.t__law_take.kp T.b__law_take (a_cons (de_var 0) (a_cons (x_op (op_add.or op_cat) prim_addIL (x_op op_mulX prim_mul x_int (x_op op_pow prim_pow x_int x_int)) x_int) a_nil)) (l_cons (l_cons l_nil))) (x_op op_pow prim_pow x_int x_int)))) z_nil) (dss_one (z_ret (x_op op_sub prim_sub (x_call (ok__law_take T) (hr.mono (by decide)) tk0 T.m__law_take T.t__law_take.kp T.b__law_take (a_cons (de_var 0) (a_cons x_int a_nil)) (l_cons (l_cons l_nil))) x_int))))))⟩

def lb__law_gcd_0 : MS := (spar 3 4 (aCons (mvar 4) (aCons (kOp fmdI (kCall intD (aCons (mvar 3) aNil)) (mvar 4)) aNil)))
def lb__law_gcd_1 : MS := (sseq (spar 3 4 (aCons (mvar 1) (aCons (kCall absD (aCons (mvar 2) aNil)) aNil))) (sseq (swhile (kB (kOp neA (mvar 4) (kC (.int 0)))) lb__law_gcd_0) (sasg (mvar 3) (gnm 1))))
def b__law_gcd_0 : MS := (sasg (kC (.int 0)) (gnm 1))
def b__law_gcd_1 : MS := (sfor (iL (mvar 0)) (gnm 2) lb__law_gcd_1)
def b__law_gcd_2 : MS := (zRet (mvar 1))
def b__law_gcd : MS := (sseq b__law_gcd_0 (sseq b__law_gcd_1 b__law_gcd_2))
def m__law_gcd : List D → M D := mdef 5 b__law_gcd
theorem ok__law_gcd (T : Txt K mg a) : FnOk P w K mg base (L2.CX P w) 1 a.f__law_gcd a.d__law_gcd ["_law_numbers"] (spM (gt a) 1 m__law_gcd) :=
  ok_fd T.t__law_gcd sc__law_gcd rfl fun cdv A outer s H E hr => by
    have tk0 := takes_of (X := (cxOf (L2.CX P w) P w K mg base ["_law_numbers", "_law_divisor", "_law_number_here", "_law_one", "_law_other"] "_law_gcd" (defScope s__law_gcd) a.f__law_gcd cdv A outer s H E)) (E := E) rfl rfl rfl rfl
    have po0 : PassesOwn (model P w) (cxOf (L2.CX P w) P w K mg base ["_law_numbers", "_law_divisor", "_law_number_here", "_law_one", "_law_other"] "_law_gcd" (defScope s__law_gcd) a.f__law_gcd cdv A outer s H E).A (cxOf (L2.CX P w) P w K mg base ["_law_numbers", "_law_divisor", "_law_number_here", "_law_one", "_law_other"] "_law_gcd" (defScope s__law_gcd) a.f__law_gcd cdv A outer s H E).env (cxOf (L2.CX P w) P w K mg base ["_law_numbers", "_law_divisor", "_law_number_here", "_law_one", "_law_other"] "_law_gcd" (defScope s__law_gcd) a.f__law_gcd cdv A outer s H E).xe := passes_of rfl
    exact ⟨_, (dss_cons (ds_set (i := 1) sc__law_gcd.nd x_int) (dss_cons (ds_for (vs := [2]) po0 rfl (i_list rfl (de_var 0)) (dg_name (i := 2) (by decide) sc__law_gcd.nd) (dss_cons (ds_par (i := 3) (j := 4) rfl sc__law_gcd.nd rfl rfl (by decide) rfl rfl (a_cons (de_var 1) (a_cons (x_callB call_abs prim_abs T.n_abs (by decide +kernel) (a_cons (de_var 2) a_nil)) a_nil))) (dss_cons (ds_while po0 (q_cmp (op_neA rfl hr.units) prim_ne (de_var 4) x_int) (dss_one (ds_par (i := 3) (j := 4) rfl sc__law_gcd.nd rfl rfl (by decide) rfl rfl (a_cons (de_var 4) (a_cons (x_op op_modN prim_fmd (x_callTy call_int1 prim_int T.n_int (by decide +kernel) (a_cons (de_var 3) a_nil)) (de_var 4)) a_nil))))) (dss_one (ds_set (i := 1) sc__law_gcd.nd (de_var 3)))))) (dss_one (z_ret (de_var 1)))))⟩

def b__law_ratio_0 : MS := (sasg (kCall m__law_gcd (aCons (kCall lstD (aCons (mvar 0) (aCons (mvar 1) aNil))) aNil)) (gnm 2))
def b__law_ratio_1 : MS := (zIf (kB (kOp ltI (mvar 1) (kC (.int 0)))) (sasg (kUn negI (mvar 2)) (gnm 2)) zNx)
def b__law_ratio_2 : MS := (zRet (kCall tupD (aCons (kOp fdvI (mvar 0) (mvar 2)) (aCons (kOp fdvI (mvar 1) (mvar 2)) aNil))))
def b__law_ratio : MS := (sseq b__law_ratio_0 (sseq b__law_ratio_1 b__law_ratio_2))
def m__law_ratio : List D → M D := mdef 3 b__law_ratio
theorem ok__law_ratio (T : Txt K mg a) : FnOk P w K mg base (L2.CX P w) 2 a.f__law_ratio a.d__law_ratio ["_law_top", "_law_bottom"] (spM (gt a) 2 m__law_ratio) :=
  ok_fd T.t__law_ratio sc__law_ratio rfl fun cdv A outer s H E hr => by
    have tk0 := takes_of (X := (cxOf (L2.CX P w) P w K mg base ["_law_top", "_law_bottom", "_law_divisor"] "_law_ratio" (defScope s__law_ratio) a.f__law_ratio cdv A outer s H E)) (E := E) rfl rfl rfl rfl
    have po0 : PassesOwn (model P w) (cxOf (L2.CX P w) P w K mg base ["_law_top", "_law_bottom", "_law_divisor"] "_law_ratio" (defScope s__law_ratio) a.f__law_ratio cdv A outer s H E).A (cxOf (L2.CX P w) P w K mg base ["_law_top", "_law_bottom", "_law_divisor"] "_law_ratio" (defScope s__law_ratio) a.f__law_ratio cdv A outer s H E).env (cxOf (L2.CX P w) P w K mg base ["_law_top", "_law_bottom", "_law_divisor"] "_law_ratio" (defScope s__law_ratio) a.f__law_ratio cdv A outer s H E).xe := passes_of rfl
    exact ⟨_, (dss_cons (ds_set (i := 2) sc__law_ratio.nd (x_call (ok__law_gcd T) (hr.mono (by decide)) tk0 T.m__law_gcd T.t__law_gcd.kp T.b__law_gcd (a_cons (x_lst (a_cons (de_var 0) (a_cons (de_var 1) a_nil))) a_nil) (l_cons l_nil))) (dss_cons (z_if (q_cmp op_lt prim_lt (de_var 1) x_int) (dss_one (ds_set (i := 2) sc__law_ratio.nd (x_un un_neg prim_neg (de_var 2)))) z_nil) (dss_one (z_ret (x_tup (a_cons (x_op op_fdivX prim_fdv (de_var 0) (de_var 2)) (a_cons (x_op op_fdivX prim_fdv (de_var 1) (de_var 2)) a_nil)))))))⟩

def b__law_three_0 : MS := (zIf (kB (kOp eqA (kCall m__law_take (aCons (mvar 0) (aCons (kC (.int 8)) aNil))) (kC (.int 0)))) (zRet (kCall tupD (aCons (kC (.int 0)) (aCons (kC (.int 0)) (aCons (kC (.int 0)) aNil))))) zNx)
def b__law_three_1 : MS := (zRet (kCall tupD (aCons (kCall m__law_number (aCons (mvar 0) aNil)) (aCons (kCall m__law_number (aCons (mvar 0) aNil)) (aCons (kCall m__law_number (aCons (mvar 0) aNil)) aNil)))))
def b__law_three : MS := (sseq b__law_three_0 b__law_three_1)
def m__law_three : List D → M D := mdef 1 b__law_three
theorem ok__law_three (T : Txt K mg a) : FnOk P w K mg base (L2.CX P w) 3 a.f__law_three a.d__law_three ["_law_bag_here"] (spM (gt a) 1 m__law_three) :=
  ok_fd T.t__law_three sc__law_three rfl fun cdv A outer s H E hr => by
    have tk0 := takes_of (X := (cxOf (L2.CX P w) P w K mg base ["_law_bag_here"] "_law_three" (defScope s__law_three) a.f__law_three cdv A outer s H E)) (E := E) rfl rfl rfl rfl
    have po0 : PassesOwn (model P w) (cxOf (L2.CX P w) P w K mg base ["_law_bag_here"] "_law_three" (defScope s__law_three) a.f__law_three cdv A outer s H E).A (cxOf (L2.CX P w) P w K mg base ["_law_bag_here"] "_law_three" (defScope s__law_three) a.f__law_three cdv A outer s H E).env (cxOf (L2.CX P w) P w K mg base ["_law_bag_here"] "_law_three" (defScope s__law_three) a.f__law_three cdv A outer s H E).xe := passes_of rfl
    exact ⟨_, (dss_cons (z_if (q_cmp (op_eqA rfl hr.units) prim_eq (x_call (ok__law_take T) (hr.mono (by decide)) tk0 T.m__law_take T.t__law_take.kp T.b__law_take (a_cons (de_var 0) (a_cons x_int a_nil)) (l_cons (l_cons l_nil))) x_int) (dss_one (z_ret (x_tup (a_cons x_int (a_cons x_int (a_cons x_int a_nil)))))) z_nil) (dss_one (z_ret (x_tup (a_cons (x_call (ok__law_number T) (hr.mono (by decide)) tk0 T.m__law_number T.t__law_number.kp T.b__law_number (a_cons (de_var 0) a_nil) (l_cons l_nil)) (a_cons (x_call (ok__law_number T) (hr.mono (by decide)) tk0 T.m__law_number T.t__law_number.kp T.b__law_number (a_cons (de_var 0) a_nil) (l_cons l_nil)) (a_cons (x_call (ok__law_number T) (hr.mono (by decide)) tk0 T.m__law_number T.t__law_number.kp T.b__law_number (a_cons (de_var 0) a_nil) (l_cons l_nil)) a_nil)))))))⟩

def b__law_flag : MS := (zRet (kIf (kB (mvar 1)) (kOp isBo (mvar 0) (kC (.bl true))) (kOp isBo (mvar 0) (kC (.bl false)))))
def m__law_flag : List D → M D := mdef 2 b__law_flag
theorem ok__law_flag (T : Txt K mg a) : FnOk P w K mg base (L2.CX P w) 1 a.f__law_flag a.d__law_flag ["_law_thing", "_law_due"] (spM (gt a) 2 m__law_flag) :=
  ok_fd T.t__law_flag sc__law_flag rfl fun cdv A outer s H E hr => by
    have tk0 := takes_of (X := (cxOf (L2.CX P w) P w K mg base ["_law_thing", "_law_due"] "_law_flag" (defScope s__law_flag) a.f__law_flag cdv A outer s H E)) (E := E) rfl rfl rfl rfl
    have po0 : PassesOwn (model P w) (cxOf (L2.CX P w) P w K mg base ["_law_thing", "_law_due"] "_law_flag" (defScope s__law_flag) a.f__law_flag cdv A outer s H E).A (cxOf (L2.CX P w) P w K mg base ["_law_thing", "_law_due"] "_law_flag" (defScope s__law_flag) a.f__law_flag cdv A outer s H E).env (cxOf (L2.CX P w) P w K mg base ["_law_thing", "_law_due"] "_law_flag" (defScope s__law_flag) a.f__law_flag cdv A outer s H E).xe := passes_of rfl
    exact ⟨_, (dss_one (z_ret (x_ifExp (q_val (de_var 1)) (x_cmp op_isBl prim_isBo (de_var 0) x_bl) (x_cmp op_isBl prim_isBo (de_var 0) x_bl))))⟩

def lb__law_is_0 : MS := (zIf (kOr (kNot (kB (kCall (isiA ans) (aCons (mvar 2) (aCons (kC (.ty "int")) aNil))))) (kB (kCall (isiA ans) (aCons (mvar 2) (aCons (kC (.ty "bool")) aNil))))) (zRet (kC (.bl false))) zNx)
def b__law_is_0 : MS := (sfor (iT (kCall tupD (aCons (kFld cf_turn "turn" (mvar 0)) (aCons (kFld cf_across "across" (mvar 0)) (aCons (kFld cf_up "up" (mvar 0)) aNil))))) (gnm 2) lb__law_is_0)
def b__law_is_1 : MS := (zRet (kAndV (kCall (isiA ans) (aCons (mvar 0) (aCons (kC (.cls 6)) aNil))) (kOp eqA (kCall tupD (aCons (kFld cf_turn "turn" (mvar 0)) (aCons (kFld cf_across "across" (mvar 0)) (aCons (kFld cf_up "up" (mvar 0)) aNil)))) (mvar 1))))
def b__law_is : MS := (sseq b__law_is_0 b__law_is_1)
def m__law_is : List D → M D := mdef 3 b__law_is
theorem ok__law_is (T : Txt K mg a) : FnOk P w K mg base (L2.CX P w) 1 a.f__law_is a.d__law_is ["_law_motion", "_law_numbers"] (spM (gt a) 2 m__law_is) :=
  ok_fd T.t__law_is sc__law_is rfl fun cdv A outer s H E hr => by
    have tk0 := takes_of (X := (cxOf (L2.CX P w) P w K mg base ["_law_motion", "_law_numbers", "_law_number_here"] "_law_is" (defScope s__law_is) a.f__law_is cdv A outer s H E)) (E := E) rfl rfl rfl rfl
    have po0 : PassesOwn (model P w) (cxOf (L2.CX P w) P w K mg base ["_law_motion", "_law_numbers", "_law_number_here"] "_law_is" (defScope s__law_is) a.f__law_is cdv A outer s H E).A (cxOf (L2.CX P w) P w K mg base ["_law_motion", "_law_numbers", "_law_number_here"] "_law_is" (defScope s__law_is) a.f__law_is cdv A outer s H E).env (cxOf (L2.CX P w) P w K mg base ["_law_motion", "_law_numbers", "_law_number_here"] "_law_is" (defScope s__law_is) a.f__law_is cdv A outer s H E).xe := passes_of rfl
    exact ⟨_, (dss_cons (ds_for (vs := [2]) po0 rfl (i_tup rfl (x_tup (a_cons (x_fld (fk_turn T) (de_var 0)) (a_cons (x_fld (fk_across T) (de_var 0)) (a_cons (x_fld (fk_up T) (de_var 0)) a_nil))))) (dg_name (i := 2) (by decide) sc__law_is.nd) (dss_one (z_if (dt_w (w_or (q_not (q_val (x_callB (cr_isi rfl) (prim_isiA (isa T)) T.n_isinstance (by decide +kernel) (a_cons (de_var 2) (a_cons (x_ty (n := "int") T.n_int (by decide +kernel)) a_nil))))) (w_or1 (q_val (x_callB (cr_isi rfl) (prim_isiA (isa T)) T.n_isinstance (by decide +kernel) (a_cons (de_var 2) (a_cons (x_ty (n := "bool") T.n_bool (by decide +kernel)) a_nil))))))) (dss_one (z_ret x_bl)) z_nil))) (dss_one (z_ret (x_and (x_callB (cr_isi rfl) (prim_isiA (isa T)) T.n_isinstance (by decide +kernel) (a_cons (de_var 0) (a_cons (x_cls (n := 6) T.m_Motion) a_nil))) (de_one (x_cmp (op_eqA rfl hr.units) prim_eq (x_tup (a_cons (x_fld (fk_turn T) (de_var 0)) (a_cons (x_fld (fk_across T) (de_var 0)) (a_cons (x_fld (fk_up T) (de_var 0)) a_nil)))) (de_var 1)))))))⟩

def b_is_number : MS := (zRet (kAndV (kCall (isiA ans) (aCons (mvar 0) (aCons (kC (.ty "int")) aNil))) (kNotV (kCall (isiA ans) (aCons (mvar 0) (aCons (kC (.ty "bool")) aNil))))))
def m_is_number : List D → M D := mdef 1 b_is_number
theorem ok_is_number (T : Txt K mg a) : FnOk P w K mg base (L2.CX P w) 1 a.f_is_number a.d_is_number ["thing"] (spM (gt a) 1 m_is_number) :=
  ok_fd T.t_is_number sc_is_number rfl fun cdv A outer s H E hr => by
    have tk0 := takes_of (X := (cxOf (L2.CX P w) P w K mg base ["thing"] "is_number" (defScope s_is_number) a.f_is_number cdv A outer s H E)) (E := E) rfl rfl rfl rfl
    have po0 : PassesOwn (model P w) (cxOf (L2.CX P w) P w K mg base ["thing"] "is_number" (defScope s_is_number) a.f_is_number cdv A outer s H E).A (cxOf (L2.CX P w) P w K mg base ["thing"] "is_number" (defScope s_is_number) a.f_is_number cdv A outer s H E).env (cxOf (L2.CX P w) P w K mg base ["thing"] "is_number" (defScope s_is_number) a.f_is_number cdv A outer s H E).xe := passes_of rfl
    exact ⟨_, (dss_one (z_ret (x_and (x_callB (cr_isi rfl) (prim_isiA (isa T)) T.n_isinstance (by decide +kernel) (a_cons (de_var 0) (a_cons (x_ty (n := "int") T.n_int (by decide +kernel)) a_nil))) (de_one (x_not (x_callB (cr_isi rfl) (prim_isiA (isa T)) T.n_isinstance (by decide +kernel) (a_cons (de_var 0) (a_cons (x_ty (n := "bool") T.n_bool (by decide +kernel)) a_nil))))))))⟩

def b_Motion___init___0 : MS := (zIf (kOr (kNot (kB (kCall m_is_number (aCons (mvar 1) aNil)))) (kOr (kNot (kB (kCall m_is_number (aCons (mvar 2) aNil)))) (kNot (kB (kCall m_is_number (aCons (mvar 3) aNil)))))) (zRaise 4) zNx)
def b_Motion___init___1 : MS := (objPut 6 "turn" (mvar 0) (mvar 1))
def b_Motion___init___2 : MS := (objPut 6 "across" (mvar 0) (mvar 2))
def b_Motion___init___3 : MS := (objPut 6 "up" (mvar 0) (mvar 3))
def b_Motion___init__ : MS := (sseq b_Motion___init___0 (sseq b_Motion___init___1 (sseq b_Motion___init___2 b_Motion___init___3)))
def m_Motion___init__ : List D → M D := mdef 4 b_Motion___init__
theorem ok_Motion___init__ (T : Txt K mg a) : FnOk P w K mg base (L2.CX P w) 3 a.f_Motion___init__ a.d_Motion___init__ ["self", "turn", "across", "up"] (spM (gt a) 4 m_Motion___init__) :=
  ok_fd T.t_Motion___init__ sc_Motion___init__ rfl fun cdv A outer s H E hr => by
    have tk0 := takes_of (X := (cxOf (L2.CX P w) P w K mg base ["self", "turn", "across", "up"] "Motion.__init__" (defScope s_Motion___init__) a.f_Motion___init__ cdv A outer s H E)) (E := E) rfl rfl rfl rfl
    have po0 : PassesOwn (model P w) (cxOf (L2.CX P w) P w K mg base ["self", "turn", "across", "up"] "Motion.__init__" (defScope s_Motion___init__) a.f_Motion___init__ cdv A outer s H E).A (cxOf (L2.CX P w) P w K mg base ["self", "turn", "across", "up"] "Motion.__init__" (defScope s_Motion___init__) a.f_Motion___init__ cdv A outer s H E).env (cxOf (L2.CX P w) P w K mg base ["self", "turn", "across", "up"] "Motion.__init__" (defScope s_Motion___init__) a.f_Motion___init__ cdv A outer s H E).xe := passes_of rfl
    exact ⟨_, (dss_cons (z_if (dt_w (w_or (q_not (q_val (x_call (ok_is_number T) (hr.mono (by decide)) tk0 T.m_is_number T.t_is_number.kp T.b_is_number (a_cons (de_var 1) a_nil) (l_cons l_nil)))) (w_or (q_not (q_val (x_call (ok_is_number T) (hr.mono (by decide)) tk0 T.m_is_number T.t_is_number.kp T.b_is_number (a_cons (de_var 2) a_nil) (l_cons l_nil)))) (w_or1 (q_not (q_val (x_call (ok_is_number T) (hr.mono (by decide)) tk0 T.m_is_number T.t_is_number.kp T.b_is_number (a_cons (de_var 3) a_nil) (l_cons l_nil)))))))) (dss_one (z_raise0 (cn := 4) rfl tk0 T.e_BadMotion sci_BadMotion rfl (hr.mono (by decide)))) z_nil) (dss_cons (ds_objPut 6 (fk_turn T 6 rfl).1 (fk_turn T 6 rfl).2 (de_var 0) (de_var 1)) (dss_cons (ds_objPut 6 (fk_across T 6 rfl).1 (fk_across T 6 rfl).2 (de_var 0) (de_var 2)) (dss_one (ds_objPut 6 (fk_up T 6 rfl).1 (fk_up T 6 rfl).2 (de_var 0) (de_var 3))))))⟩

def tb__law_refused_0 : MS := (zEx (kMk 6 m_Motion___init__ [] (aCons (kOp itemD (mvar 0) (kC (.int 0))) (aCons (kOp itemD (mvar 0) (kC (.int 1))) (aCons (kOp itemD (mvar 0) (kC (.int 2))) aNil)))))
def hb__law_refused_1 : MS := (zRet (kAndV (kCall (isiX ansE) (aCons (mvar 1) (aCons (kC (.cls 4)) aNil))) (kAndV (kCall (isiX ansE) (aCons (mvar 1) (aCons (kC (.ty "ValueError")) aNil))) (kNotV (kCall (isiX ansE) (aCons (mvar 1) (aCons (kC (.cls 5)) aNil)))))))
def b__law_refused_0 : MS := (oA 1 mt_BridgeError (fun _ => false) tb__law_refused_0 (fun _ => hb__law_refused_1))
def b__law_refused_1 : MS := (zRet (kC (.bl false)))
def b__law_refused : MS := (sseq b__law_refused_0 b__law_refused_1)
def m__law_refused : List D → M D := mdef 2 b__law_refused
theorem ok__law_refused (T : Txt K mg a) : FnOk P w K mg base (L2.CX P w) 5 a.f__law_refused a.d__law_refused ["_law_numbers"] (spM (gt a) 1 m__law_refused) :=
  ok_fd T.t__law_refused sc__law_refused rfl fun cdv A outer s H E hr => by
    have tk0 := takes_of (X := (cxOf (L2.CX P w) P w K mg base ["_law_numbers", "e"] "_law_refused" (defScope s__law_refused) a.f__law_refused cdv A outer s H E)) (E := E) rfl rfl rfl rfl
    have po0 : PassesOwn (model P w) (cxOf (L2.CX P w) P w K mg base ["_law_numbers", "e"] "_law_refused" (defScope s__law_refused) a.f__law_refused cdv A outer s H E).A (cxOf (L2.CX P w) P w K mg base ["_law_numbers", "e"] "_law_refused" (defScope s__law_refused) a.f__law_refused cdv A outer s H E).env (cxOf (L2.CX P w) P w K mg base ["_law_numbers", "e"] "_law_refused" (defScope s__law_refused) a.f__law_refused cdv A outer s H E).xe := passes_of rfl
    exact ⟨_, (dss_cons (ds_try_as (i := 1) (mt := mt_BridgeError) (nf := fun _ => false) (hs1 := fun _ => hb__law_refused_1) (mb := tb__law_refused_0) rfl rfl rfl sc__law_refused.nd rfl rfl ⟨by exact rfl, by decide, .inl T.m_BridgeError⟩ tk0 (hmt_BridgeError T) (fun W' pn xe tk' po' => ⟨_, (dss_one (z_expr (x_mk T.mk_Motion (ok_Motion___init__ T) (hr.mono (by decide)) tk' .nil (fun _ _ => rfl) (a_cons (x_ix rfl (de_var 0) x_int) (a_cons (x_ix rfl (de_var 0) x_int) (a_cons (x_ix rfl (de_var 0) x_int) a_nil))) (l_cons (l_cons (l_cons l_nil))) (by decide))))⟩) (fun a1 oe1 c1 dd1 pn1 hm _ hz hf => ⟨_, (dss_one (z_ret (x_and (x_isX (ec_BridgeError T hm) hz hf (fun t b q => isaE T (.inr _) t b q) rfl T.n_isinstance (a_cons (de_var 1) (a_cons (x_cls (n := 4) T.m_BadMotion) a_nil))) (x_and (x_isX (ec_BridgeError T hm) hz hf (fun t b q => isaE T (.inr _) t b q) rfl T.n_isinstance (a_cons (de_var 1) (a_cons (x_ty (n := "ValueError") T.n_ValueError (by decide +kernel)) a_nil))) (de_one (x_not (x_isX (ec_BridgeError T hm) hz hf (fun t b q => isaE T (.inr _) t b q) rfl T.n_isinstance (a_cons (de_var 1) (a_cons (x_cls (n := 5) T.m_BadWeights) a_nil)))))))))⟩)).choose_spec (dss_one (z_ret x_bl)))⟩

def b__law_number_is : MS := (zRet (kAndV (kCall (isiA ans) (aCons (mvar 0) (aCons (kC (.ty "int")) aNil))) (kAndV (kNotV (kCall (isiA ans) (aCons (mvar 0) (aCons (kC (.ty "bool")) aNil)))) (kOp eqA (mvar 0) (mvar 1)))))
def m__law_number_is : List D → M D := mdef 2 b__law_number_is
theorem ok__law_number_is (T : Txt K mg a) : FnOk P w K mg base (L2.CX P w) 1 a.f__law_number_is a.d__law_number_is ["_law_thing", "_law_number_here"] (spM (gt a) 2 m__law_number_is) :=
  ok_fd T.t__law_number_is sc__law_number_is rfl fun cdv A outer s H E hr => by
    have tk0 := takes_of (X := (cxOf (L2.CX P w) P w K mg base ["_law_thing", "_law_number_here"] "_law_number_is" (defScope s__law_number_is) a.f__law_number_is cdv A outer s H E)) (E := E) rfl rfl rfl rfl
    have po0 : PassesOwn (model P w) (cxOf (L2.CX P w) P w K mg base ["_law_thing", "_law_number_here"] "_law_number_is" (defScope s__law_number_is) a.f__law_number_is cdv A outer s H E).A (cxOf (L2.CX P w) P w K mg base ["_law_thing", "_law_number_here"] "_law_number_is" (defScope s__law_number_is) a.f__law_number_is cdv A outer s H E).env (cxOf (L2.CX P w) P w K mg base ["_law_thing", "_law_number_here"] "_law_number_is" (defScope s__law_number_is) a.f__law_number_is cdv A outer s H E).xe := passes_of rfl
    exact ⟨_, (dss_one (z_ret (x_and (x_callB (cr_isi rfl) (prim_isiA (isa T)) T.n_isinstance (by decide +kernel) (a_cons (de_var 0) (a_cons (x_ty (n := "int") T.n_int (by decide +kernel)) a_nil))) (x_and (x_not (x_callB (cr_isi rfl) (prim_isiA (isa T)) T.n_isinstance (by decide +kernel) (a_cons (de_var 0) (a_cons (x_ty (n := "bool") T.n_bool (by decide +kernel)) a_nil)))) (de_one (x_cmp (op_eqA rfl hr.units) prim_eq (de_var 0) (de_var 1)))))))⟩

def b_Motion___add__ : MS := (zRet (kMk 6 m_Motion___init__ [] (aCons (kOp addIL (kFld cf_turn "turn" (mvar 0)) (kFld cf_turn "turn" (mvar 1))) (aCons (kOp addIL (kFld cf_across "across" (mvar 0)) (kFld cf_across "across" (mvar 1))) (aCons (kOp addIL (kFld cf_up "up" (mvar 0)) (kFld cf_up "up" (mvar 1))) aNil)))))
def m_Motion___add__ : List D → M D := mdef 2 b_Motion___add__
theorem ok_Motion___add__ (T : Txt K mg a) : FnOk P w K mg base (L2.CX P w) 5 a.f_Motion___add__ a.d_Motion___add__ ["self", "other"] (spM (gt a) 2 m_Motion___add__) :=
  ok_fd T.t_Motion___add__ sc_Motion___add__ rfl fun cdv A outer s H E hr => by
    have tk0 := takes_of (X := (cxOf (L2.CX P w) P w K mg base ["self", "other"] "Motion.__add__" (defScope s_Motion___add__) a.f_Motion___add__ cdv A outer s H E)) (E := E) rfl rfl rfl rfl
    have po0 : PassesOwn (model P w) (cxOf (L2.CX P w) P w K mg base ["self", "other"] "Motion.__add__" (defScope s_Motion___add__) a.f_Motion___add__ cdv A outer s H E).A (cxOf (L2.CX P w) P w K mg base ["self", "other"] "Motion.__add__" (defScope s_Motion___add__) a.f_Motion___add__ cdv A outer s H E).env (cxOf (L2.CX P w) P w K mg base ["self", "other"] "Motion.__add__" (defScope s_Motion___add__) a.f_Motion___add__ cdv A outer s H E).xe := passes_of rfl
    exact ⟨_, (dss_one (z_ret (x_mk T.mk_Motion (ok_Motion___init__ T) (hr.mono (by decide)) tk0 .nil (fun _ _ => rfl) (a_cons (x_op (op_add.or op_cat) prim_addIL (x_fld (fk_turn T) (de_var 0)) (x_fld (fk_turn T) (de_var 1))) (a_cons (x_op (op_add.or op_cat) prim_addIL (x_fld (fk_across T) (de_var 0)) (x_fld (fk_across T) (de_var 1))) (a_cons (x_op (op_add.or op_cat) prim_addIL (x_fld (fk_up T) (de_var 0)) (x_fld (fk_up T) (de_var 1))) a_nil))) (l_cons (l_cons (l_cons l_nil))) (by decide))))⟩

def b_Motion___sub__ : MS := (zRet (kMk 6 m_Motion___init__ [] (aCons (kOp subI (kFld cf_turn "turn" (mvar 0)) (kFld cf_turn "turn" (mvar 1))) (aCons (kOp subI (kFld cf_across "across" (mvar 0)) (kFld cf_across "across" (mvar 1))) (aCons (kOp subI (kFld cf_up "up" (mvar 0)) (kFld cf_up "up" (mvar 1))) aNil)))))
def m_Motion___sub__ : List D → M D := mdef 2 b_Motion___sub__
theorem ok_Motion___sub__ (T : Txt K mg a) : FnOk P w K mg base (L2.CX P w) 5 a.f_Motion___sub__ a.d_Motion___sub__ ["self", "other"] (spM (gt a) 2 m_Motion___sub__) :=
  ok_fd T.t_Motion___sub__ sc_Motion___sub__ rfl fun cdv A outer s H E hr => by
    have tk0 := takes_of (X := (cxOf (L2.CX P w) P w K mg base ["self", "other"] "Motion.__sub__" (defScope s_Motion___sub__) a.f_Motion___sub__ cdv A outer s H E)) (E := E) rfl rfl rfl rfl
    have po0 : PassesOwn (model P w) (cxOf (L2.CX P w) P w K mg base ["self", "other"] "Motion.__sub__" (defScope s_Motion___sub__) a.f_Motion___sub__ cdv A outer s H E).A (cxOf (L2.CX P w) P w K mg base ["self", "other"] "Motion.__sub__" (defScope s_Motion___sub__) a.f_Motion___sub__ cdv A outer s H E).env (cxOf (L2.CX P w) P w K mg base ["self", "other"] "Motion.__sub__" (defScope s_Motion___sub__) a.f_Motion___sub__ cdv A outer s H E).xe := passes_of rfl
    exact ⟨_, (dss_one (z_ret (x_mk T.mk_Motion (ok_Motion___init__ T) (hr.mono (by decide)) tk0 .nil (fun _ _ => rfl) (a_cons (x_op op_sub prim_sub (x_fld (fk_turn T) (de_var 0)) (x_fld (fk_turn T) (de_var 1))) (a_cons (x_op op_sub prim_sub (x_fld (fk_across T) (de_var 0)) (x_fld (fk_across T) (de_var 1))) (a_cons (x_op op_sub prim_sub (x_fld (fk_up T) (de_var 0)) (x_fld (fk_up T) (de_var 1))) a_nil))) (l_cons (l_cons (l_cons l_nil))) (by decide))))⟩

def b_Motion___neg__ : MS := (zRet (kMk 6 m_Motion___init__ [] (aCons (kUn negI (kFld cf_turn "turn" (mvar 0))) (aCons (kUn negI (kFld cf_across "across" (mvar 0))) (aCons (kUn negI (kFld cf_up "up" (mvar 0))) aNil)))))
def m_Motion___neg__ : List D → M D := mdef 1 b_Motion___neg__
theorem ok_Motion___neg__ (T : Txt K mg a) : FnOk P w K mg base (L2.CX P w) 5 a.f_Motion___neg__ a.d_Motion___neg__ ["self"] (spM (gt a) 1 m_Motion___neg__) :=
  ok_fd T.t_Motion___neg__ sc_Motion___neg__ rfl fun cdv A outer s H E hr => by
    have tk0 := takes_of (X := (cxOf (L2.CX P w) P w K mg base ["self"] "Motion.__neg__" (defScope s_Motion___neg__) a.f_Motion___neg__ cdv A outer s H E)) (E := E) rfl rfl rfl rfl
    have po0 : PassesOwn (model P w) (cxOf (L2.CX P w) P w K mg base ["self"] "Motion.__neg__" (defScope s_Motion___neg__) a.f_Motion___neg__ cdv A outer s H E).A (cxOf (L2.CX P w) P w K mg base ["self"] "Motion.__neg__" (defScope s_Motion___neg__) a.f_Motion___neg__ cdv A outer s H E).env (cxOf (L2.CX P w) P w K mg base ["self"] "Motion.__neg__" (defScope s_Motion___neg__) a.f_Motion___neg__ cdv A outer s H E).xe := passes_of rfl
    exact ⟨_, (dss_one (z_ret (x_mk T.mk_Motion (ok_Motion___init__ T) (hr.mono (by decide)) tk0 .nil (fun _ _ => rfl) (a_cons (x_un un_neg prim_neg (x_fld (fk_turn T) (de_var 0))) (a_cons (x_un un_neg prim_neg (x_fld (fk_across T) (de_var 0))) (a_cons (x_un un_neg prim_neg (x_fld (fk_up T) (de_var 0))) a_nil))) (l_cons (l_cons (l_cons l_nil))) (by decide))))⟩

def b_Motion___mul__ : MS := (zRet (kMk 6 m_Motion___init__ [] (aCons (kOp mulI (kFld cf_turn "turn" (mvar 0)) (mvar 1)) (aCons (kOp mulI (kFld cf_across "across" (mvar 0)) (mvar 1)) (aCons (kOp mulI (kFld cf_up "up" (mvar 0)) (mvar 1)) aNil)))))
def m_Motion___mul__ : List D → M D := mdef 2 b_Motion___mul__
theorem ok_Motion___mul__ (T : Txt K mg a) : FnOk P w K mg base (L2.CX P w) 5 a.f_Motion___mul__ a.d_Motion___mul__ ["self", "other"] (spM (gt a) 2 m_Motion___mul__) :=
  ok_fd T.t_Motion___mul__ sc_Motion___mul__ rfl fun cdv A outer s H E hr => by
    have tk0 := takes_of (X := (cxOf (L2.CX P w) P w K mg base ["self", "other"] "Motion.__mul__" (defScope s_Motion___mul__) a.f_Motion___mul__ cdv A outer s H E)) (E := E) rfl rfl rfl rfl
    have po0 : PassesOwn (model P w) (cxOf (L2.CX P w) P w K mg base ["self", "other"] "Motion.__mul__" (defScope s_Motion___mul__) a.f_Motion___mul__ cdv A outer s H E).A (cxOf (L2.CX P w) P w K mg base ["self", "other"] "Motion.__mul__" (defScope s_Motion___mul__) a.f_Motion___mul__ cdv A outer s H E).env (cxOf (L2.CX P w) P w K mg base ["self", "other"] "Motion.__mul__" (defScope s_Motion___mul__) a.f_Motion___mul__ cdv A outer s H E).xe := passes_of rfl
    exact ⟨_, (dss_one (z_ret (x_mk T.mk_Motion (ok_Motion___init__ T) (hr.mono (by decide)) tk0 .nil (fun _ _ => rfl) (a_cons (x_op op_mulX prim_mul (x_fld (fk_turn T) (de_var 0)) (de_var 1)) (a_cons (x_op op_mulX prim_mul (x_fld (fk_across T) (de_var 0)) (de_var 1)) (a_cons (x_op op_mulX prim_mul (x_fld (fk_up T) (de_var 0)) (de_var 1)) a_nil))) (l_cons (l_cons (l_cons l_nil))) (by decide))))⟩

def b_Motion___eq__ : MS := (zRet (kAndV (kCall (isiA ans) (aCons (mvar 1) (aCons (kC (.cls 6)) aNil))) (kAndV (kOp eqA (kFld cf_turn "turn" (mvar 0)) (kFld cf_turn "turn" (mvar 1))) (kAndV (kOp eqA (kFld cf_across "across" (mvar 0)) (kFld cf_across "across" (mvar 1))) (kOp eqA (kFld cf_up "up" (mvar 0)) (kFld cf_up "up" (mvar 1)))))))
def m_Motion___eq__ : List D → M D := mdef 2 b_Motion___eq__
theorem ok_Motion___eq__ (T : Txt K mg a) : FnOk P w K mg base (L2.CX P w) 1 a.f_Motion___eq__ a.d_Motion___eq__ ["self", "other"] (spM (gt a) 2 m_Motion___eq__) :=
  ok_fd T.t_Motion___eq__ sc_Motion___eq__ rfl fun cdv A outer s H E hr => by
    have tk0 := takes_of (X := (cxOf (L2.CX P w) P w K mg base ["self", "other"] "Motion.__eq__" (defScope s_Motion___eq__) a.f_Motion___eq__ cdv A outer s H E)) (E := E) rfl rfl rfl rfl
    have po0 : PassesOwn (model P w) (cxOf (L2.CX P w) P w K mg base ["self", "other"] "Motion.__eq__" (defScope s_Motion___eq__) a.f_Motion___eq__ cdv A outer s H E).A (cxOf (L2.CX P w) P w K mg base ["self", "other"] "Motion.__eq__" (defScope s_Motion___eq__) a.f_Motion___eq__ cdv A outer s H E).env (cxOf (L2.CX P w) P w K mg base ["self", "other"] "Motion.__eq__" (defScope s_Motion___eq__) a.f_Motion___eq__ cdv A outer s H E).xe := passes_of rfl
    exact ⟨_, (dss_one (z_ret (x_and (x_callB (cr_isi rfl) (prim_isiA (isa T)) T.n_isinstance (by decide +kernel) (a_cons (de_var 1) (a_cons (x_cls (n := 6) T.m_Motion) a_nil))) (x_and (x_cmp (op_eqA rfl hr.units) prim_eq (x_fld (fk_turn T) (de_var 0)) (x_fld (fk_turn T) (de_var 1))) (x_and (x_cmp (op_eqA rfl hr.units) prim_eq (x_fld (fk_across T) (de_var 0)) (x_fld (fk_across T) (de_var 1))) (de_one (x_cmp (op_eqA rfl hr.units) prim_eq (x_fld (fk_up T) (de_var 0)) (x_fld (fk_up T) (de_var 1)))))))))⟩

def b_Force___init___0 : MS := (zIf (kNot (kB (kCall m_is_number (aCons (mvar 1) aNil)))) (zRaiseN 2 ["what"] (aCons (kC (.str "across")) aNil)) zNx)
def b_Force___init___1 : MS := (zIf (kNot (kB (kCall m_is_number (aCons (mvar 2) aNil)))) (zRaiseN 2 ["what"] (aCons (kC (.str "up")) aNil)) zNx)
def b_Force___init___2 : MS := (zIf (kNot (kB (kCall m_is_number (aCons (mvar 3) aNil)))) (zRaiseN 2 ["what"] (aCons (kC (.str "moment")) aNil)) zNx)
def b_Force___init___3 : MS := (objPut 7 "across" (mvar 0) (mvar 1))
def b_Force___init___4 : MS := (objPut 7 "up" (mvar 0) (mvar 2))
def b_Force___init___5 : MS := (objPut 7 "moment" (mvar 0) (mvar 3))
def b_Force___init__ : MS := (sseq b_Force___init___0 (sseq b_Force___init___1 (sseq b_Force___init___2 (sseq b_Force___init___3 (sseq b_Force___init___4 b_Force___init___5)))))
def m_Force___init__ : List D → M D := mdef 4 b_Force___init__
theorem ok_Force___init__ (T : Txt K mg a) : FnOk P w K mg base (L2.CX P w) 3 a.f_Force___init__ a.d_Force___init__ ["self", "across", "up", "moment"] (spM (gt a) 4 m_Force___init__) :=
  ok_fd T.t_Force___init__ sc_Force___init__ rfl fun cdv A outer s H E hr => by
    have tk0 := takes_of (X := (cxOf (L2.CX P w) P w K mg base ["self", "across", "up", "moment"] "Force.__init__" (defScope s_Force___init__) a.f_Force___init__ cdv A outer s H E)) (E := E) rfl rfl rfl rfl
    have po0 : PassesOwn (model P w) (cxOf (L2.CX P w) P w K mg base ["self", "across", "up", "moment"] "Force.__init__" (defScope s_Force___init__) a.f_Force___init__ cdv A outer s H E).A (cxOf (L2.CX P w) P w K mg base ["self", "across", "up", "moment"] "Force.__init__" (defScope s_Force___init__) a.f_Force___init__ cdv A outer s H E).env (cxOf (L2.CX P w) P w K mg base ["self", "across", "up", "moment"] "Force.__init__" (defScope s_Force___init__) a.f_Force___init__ cdv A outer s H E).xe := passes_of rfl
    exact ⟨_, (dss_cons (z_if (q_not (q_val (x_call (ok_is_number T) (hr.mono (by decide)) tk0 T.m_is_number T.t_is_number.kp T.b_is_number (a_cons (de_var 1) a_nil) (l_cons l_nil)))) (dss_one (z_raise1 (cn := 2) rfl tk0 T.e_BadForce (oke_BadForce T) (hr.mono (by decide)) (a_cons x_str a_nil) (l_cons l_nil))) z_nil) (dss_cons (z_if (q_not (q_val (x_call (ok_is_number T) (hr.mono (by decide)) tk0 T.m_is_number T.t_is_number.kp T.b_is_number (a_cons (de_var 2) a_nil) (l_cons l_nil)))) (dss_one (z_raise1 (cn := 2) rfl tk0 T.e_BadForce (oke_BadForce T) (hr.mono (by decide)) (a_cons x_str a_nil) (l_cons l_nil))) z_nil) (dss_cons (z_if (q_not (q_val (x_call (ok_is_number T) (hr.mono (by decide)) tk0 T.m_is_number T.t_is_number.kp T.b_is_number (a_cons (de_var 3) a_nil) (l_cons l_nil)))) (dss_one (z_raise1 (cn := 2) rfl tk0 T.e_BadForce (oke_BadForce T) (hr.mono (by decide)) (a_cons x_str a_nil) (l_cons l_nil))) z_nil) (dss_cons (ds_objPut 7 (fk_across T 7 rfl).1 (fk_across T 7 rfl).2 (de_var 0) (de_var 1)) (dss_cons (ds_objPut 7 (fk_up T 7 rfl).1 (fk_up T 7 rfl).2 (de_var 0) (de_var 2)) (dss_one (ds_objPut 7 (fk_moment T 7 rfl).1 (fk_moment T 7 rfl).2 (de_var 0) (de_var 3))))))))⟩

def b_Motion_is_none : MS := (zRet (kAndV (kOp eqA (kFld cf_turn "turn" (mvar 0)) (kC (.int 0))) (kAndV (kOp eqA (kFld cf_across "across" (mvar 0)) (kC (.int 0))) (kOp eqA (kFld cf_up "up" (mvar 0)) (kC (.int 0))))))
def m_Motion_is_none : List D → M D := mdef 1 b_Motion_is_none
theorem ok_Motion_is_none (T : Txt K mg a) : FnOk P w K mg base (L2.CX P w) 1 a.f_Motion_is_none a.d_Motion_is_none ["self"] (spM (gt a) 1 m_Motion_is_none) :=
  ok_fd T.t_Motion_is_none sc_Motion_is_none rfl fun cdv A outer s H E hr => by
    have tk0 := takes_of (X := (cxOf (L2.CX P w) P w K mg base ["self"] "Motion.is_none" (defScope s_Motion_is_none) a.f_Motion_is_none cdv A outer s H E)) (E := E) rfl rfl rfl rfl
    have po0 : PassesOwn (model P w) (cxOf (L2.CX P w) P w K mg base ["self"] "Motion.is_none" (defScope s_Motion_is_none) a.f_Motion_is_none cdv A outer s H E).A (cxOf (L2.CX P w) P w K mg base ["self"] "Motion.is_none" (defScope s_Motion_is_none) a.f_Motion_is_none cdv A outer s H E).env (cxOf (L2.CX P w) P w K mg base ["self"] "Motion.is_none" (defScope s_Motion_is_none) a.f_Motion_is_none cdv A outer s H E).xe := passes_of rfl
    exact ⟨_, (dss_one (z_ret (x_and (x_cmp (op_eqA rfl hr.units) prim_eq (x_fld (fk_turn T) (de_var 0)) x_int) (x_and (x_cmp (op_eqA rfl hr.units) prim_eq (x_fld (fk_across T) (de_var 0)) x_int) (de_one (x_cmp (op_eqA rfl hr.units) prim_eq (x_fld (fk_up T) (de_var 0)) x_int))))))⟩

def b_Motion_none : MS := (zRet (kMkV 6 m_Motion___init__ [] (mvar 0) (aCons (kC (.int 0)) (aCons (kC (.int 0)) (aCons (kC (.int 0)) aNil)))))
def m_Motion_none : List D → M D := mdef 1 b_Motion_none
theorem ok_Motion_none (T : Txt K mg a) : FnOk P w K mg base (L2.CX P w) 5 a.f_Motion_none a.d_Motion_none ["cls"] (spM (gt a) 1 m_Motion_none) :=
  ok_fd T.t_Motion_none sc_Motion_none rfl fun cdv A outer s H E hr => by
    have tk0 := takes_of (X := (cxOf (L2.CX P w) P w K mg base ["cls"] "Motion.none" (defScope s_Motion_none) a.f_Motion_none cdv A outer s H E)) (E := E) rfl rfl rfl rfl
    have po0 : PassesOwn (model P w) (cxOf (L2.CX P w) P w K mg base ["cls"] "Motion.none" (defScope s_Motion_none) a.f_Motion_none cdv A outer s H E).A (cxOf (L2.CX P w) P w K mg base ["cls"] "Motion.none" (defScope s_Motion_none) a.f_Motion_none cdv A outer s H E).env (cxOf (L2.CX P w) P w K mg base ["cls"] "Motion.none" (defScope s_Motion_none) a.f_Motion_none cdv A outer s H E).xe := passes_of rfl
    exact ⟨_, (dss_one (z_ret (x_makeV T.mk_Motion (ok_Motion___init__ T) (hr.mono (by decide)) tk0 .nil (fun _ _ => rfl) (de_var 0) (a_cons x_int (a_cons x_int (a_cons x_int a_nil))) (l_cons (l_cons (l_cons l_nil))) (by decide))))⟩

def b__law_signs_0 : MS := (spar 3 4 (aCons (kMk 6 m_Motion___init__ [] (aCons (kOp itemD (mvar 0) (kC (.int 0))) (aCons (kOp itemD (mvar 0) (kC (.int 1))) (aCons (kOp itemD (mvar 0) (kC (.int 2))) aNil)))) (aCons (kMk 6 m_Motion___init__ [] (aCons (kOp itemD (mvar 1) (kC (.int 0))) (aCons (kOp itemD (mvar 1) (kC (.int 1))) (aCons (kOp itemD (mvar 1) (kC (.int 2))) aNil)))) aNil)))
def b__law_signs_1 : MS := (zIf (kNot (kB (kCall m__law_is (aCons (kOp (ownX 6 m_Motion___add__) (mvar 3) (mvar 4)) (aCons (kCall tupD (aCons (kOp addIL (kOp itemD (mvar 0) (kC (.int 0))) (kOp itemD (mvar 1) (kC (.int 0)))) (aCons (kOp addIL (kOp itemD (mvar 0) (kC (.int 1))) (kOp itemD (mvar 1) (kC (.int 1)))) (aCons (kOp addIL (kOp itemD (mvar 0) (kC (.int 2))) (kOp itemD (mvar 1) (kC (.int 2)))) aNil)))) aNil))))) (zRet (kC (.bl false))) zNx)
def b__law_signs_2 : MS := (zIf (kNot (kB (kCall m__law_is (aCons (kOp (ownX 6 m_Motion___sub__) (mvar 3) (mvar 4)) (aCons (kCall tupD (aCons (kOp subI (kOp itemD (mvar 0) (kC (.int 0))) (kOp itemD (mvar 1) (kC (.int 0)))) (aCons (kOp subI (kOp itemD (mvar 0) (kC (.int 1))) (kOp itemD (mvar 1) (kC (.int 1)))) (aCons (kOp subI (kOp itemD (mvar 0) (kC (.int 2))) (kOp itemD (mvar 1) (kC (.int 2)))) aNil)))) aNil))))) (zRet (kC (.bl false))) zNx)
def b__law_signs_3 : MS := (zIf (kOr (kNot (kB (kCall m__law_is (aCons (kUn (ownN 6 m_Motion___neg__) (mvar 3)) (aCons (kCall tupD (aCons (kUn negI (kOp itemD (mvar 0) (kC (.int 0)))) (aCons (kUn negI (kOp itemD (mvar 0) (kC (.int 1)))) (aCons (kUn negI (kOp itemD (mvar 0) (kC (.int 2)))) aNil)))) aNil))))) (kNot (kB (kCall m__law_is (aCons (kOp (ownI 6 m_Motion___mul__) (mvar 3) (mvar 2)) (aCons (kCall tupD (aCons (kOp mulI (kOp itemD (mvar 0) (kC (.int 0))) (mvar 2)) (aCons (kOp mulI (kOp itemD (mvar 0) (kC (.int 1))) (mvar 2)) (aCons (kOp mulI (kOp itemD (mvar 0) (kC (.int 2))) (mvar 2)) aNil)))) aNil)))))) (zRet (kC (.bl false))) zNx)
def b__law_signs_4 : MS := (zIf (kOr (kNot (kB (kCall m__law_is (aCons (mvar 3) (aCons (mvar 0) aNil))))) (kNot (kB (kCall m__law_is (aCons (mvar 4) (aCons (mvar 1) aNil)))))) (zRet (kC (.bl false))) zNx)
def b__law_signs_5 : MS := (zIf (kOr (kNot (kB (kCall m__law_flag (aCons (kOp (oeqB 6 nf_Motion m_Motion___eq__) (mvar 3) (mvar 4)) (aCons (kOp eqA (mvar 0) (mvar 1)) aNil))))) (kOr (kB (kOp notBo (kOp (oeqB 6 nf_Motion m_Motion___eq__) (mvar 3) (mvar 0)) (kC (.bl false)))) (kB (kOp notBo (kOp (oeqB 6 nf_Motion m_Motion___eq__) (mvar 3) (kMk 7 m_Force___init__ [] (aCons (kOp itemD (mvar 0) (kC (.int 1))) (aCons (kOp itemD (mvar 0) (kC (.int 2))) (aCons (kOp itemD (mvar 0) (kC (.int 0))) aNil))))) (kC (.bl false)))))) (zRet (kC (.bl false))) zNx)
def b__law_signs_6 : MS := (zIf (kOr (kB (kOp notBo (kOp (oeqB 6 nf_Motion m_Motion___eq__) (mvar 3) (kMk 6 m_Motion___init__ [] (aCons (kOp itemD (mvar 0) (kC (.int 0))) (aCons (kOp itemD (mvar 0) (kC (.int 1))) (aCons (kOp itemD (mvar 0) (kC (.int 2))) aNil))))) (kC (.bl true)))) (kB (kOp notBo (kOp (oeqB 6 nf_Motion m_Motion___eq__) (mvar 3) (kMk 6 m_Motion___init__ [] (aCons (kOp itemD (mvar 0) (kC (.int 0))) (aCons (kOp itemD (mvar 0) (kC (.int 1))) (aCons (kOp addIL (kOp itemD (mvar 0) (kC (.int 2))) (kC (.int 1))) aNil))))) (kC (.bl false))))) (zRet (kC (.bl false))) zNx)
def b__law_signs_7 : MS := (zIf (kOr (kB (kOp notBo (kOp (oeqB 6 nf_Motion m_Motion___eq__) (mvar 3) (kMk 6 m_Motion___init__ [] (aCons (kOp addIL (kOp itemD (mvar 0) (kC (.int 0))) (kC (.int 1))) (aCons (kOp itemD (mvar 0) (kC (.int 1))) (aCons (kOp itemD (mvar 0) (kC (.int 2))) aNil))))) (kC (.bl false)))) (kB (kOp notBo (kOp (oeqB 6 nf_Motion m_Motion___eq__) (mvar 3) (kMk 6 m_Motion___init__ [] (aCons (kOp itemD (mvar 0) (kC (.int 0))) (aCons (kOp subI (kOp itemD (mvar 0) (kC (.int 1))) (kC (.int 1))) (aCons (kOp itemD (mvar 0) (kC (.int 2))) aNil))))) (kC (.bl false))))) (zRet (kC (.bl false))) zNx)
def b__law_signs_8 : MS := (zRet (kAndV (kCall m__law_flag (aCons (kProp 6 "is_none" m_Motion_is_none (mvar 3)) (aCons (kOp eqA (mvar 0) (kCall tupD (aCons (kC (.int 0)) (aCons (kC (.int 0)) (aCons (kC (.int 0)) aNil))))) aNil))) (kAndV (kOp isBo (kProp 6 "is_none" m_Motion_is_none (kOp (ownX 6 m_Motion___sub__) (mvar 3) (mvar 3))) (kC (.bl true))) (kCall m__law_is (aCons (kCmS 6 m_Motion_none [] (kC (.cls 6)) aNil) (aCons (kCall tupD (aCons (kC (.int 0)) (aCons (kC (.int 0)) (aCons (kC (.int 0)) aNil)))) aNil))))))
def b__law_signs : MS := (sseq b__law_signs_0 (sseq b__law_signs_1 (sseq b__law_signs_2 (sseq b__law_signs_3 (sseq b__law_signs_4 (sseq b__law_signs_5 (sseq b__law_signs_6 (sseq b__law_signs_7 b__law_signs_8))))))))
def m__law_signs : List D → M D := mdef 5 b__law_signs
theorem ok__law_signs (T : Txt K mg a) : FnOk P w K mg base (L2.CX P w) 6 a.f__law_signs a.d__law_signs ["_law_a", "_law_b", "_law_times"] (spM (gt a) 3 m__law_signs) :=
  ok_fd T.t__law_signs sc__law_signs rfl fun cdv A outer s H E hr => by
    have tk0 := takes_of (X := (cxOf (L2.CX P w) P w K mg base ["_law_a", "_law_b", "_law_times", "_law_one", "_law_other"] "_law_signs" (defScope s__law_signs) a.f__law_signs cdv A outer s H E)) (E := E) rfl rfl rfl rfl
    have po0 : PassesOwn (model P w) (cxOf (L2.CX P w) P w K mg base ["_law_a", "_law_b", "_law_times", "_law_one", "_law_other"] "_law_signs" (defScope s__law_signs) a.f__law_signs cdv A outer s H E).A (cxOf (L2.CX P w) P w K mg base ["_law_a", "_law_b", "_law_times", "_law_one", "_law_other"] "_law_signs" (defScope s__law_signs) a.f__law_signs cdv A outer s H E).env (cxOf (L2.CX P w) P w K mg base ["_law_a", "_law_b", "_law_times", "_law_one", "_law_other"] "_law_signs" (defScope s__law_signs) a.f__law_signs cdv A outer s H E).xe := passes_of rfl
    exact ⟨_, (dss_cons (ds_par (i := 3) (j := 4) rfl sc__law_signs.nd rfl rfl (by decide) rfl rfl (a_cons (x_mk T.mk_Motion (ok_Motion___init__ T) (hr.mono (by decide)) tk0 .nil (fun _ _ => rfl) (a_cons (x_ix rfl (de_var 0) x_int) (a_cons (x_ix rfl (de_var 0) x_int) (a_cons (x_ix rfl (de_var 0) x_int) a_nil))) (l_cons (l_cons (l_cons l_nil))) (by decide)) (a_cons (x_mk T.mk_Motion (ok_Motion___init__ T) (hr.mono (by decide)) tk0 .nil (fun _ _ => rfl) (a_cons (x_ix rfl (de_var 1) x_int) (a_cons (x_ix rfl (de_var 1) x_int) (a_cons (x_ix rfl (de_var 1) x_int) a_nil))) (l_cons (l_cons (l_cons l_nil))) (by decide)) a_nil))) (dss_cons (z_if (q_not (q_val (x_call (ok__law_is T) (hr.mono (by decide)) tk0 T.m__law_is T.t__law_is.kp T.b__law_is (a_cons (x_own T.op_Motion___add__ (ok_Motion___add__ T) (hr.mono (by decide)) tk0 (de_var 3) (de_var 4)) (a_cons (x_tup (a_cons (x_op (op_add.or op_cat) prim_addIL (x_ix rfl (de_var 0) x_int) (x_ix rfl (de_var 1) x_int)) (a_cons (x_op (op_add.or op_cat) prim_addIL (x_ix rfl (de_var 0) x_int) (x_ix rfl (de_var 1) x_int)) (a_cons (x_op (op_add.or op_cat) prim_addIL (x_ix rfl (de_var 0) x_int) (x_ix rfl (de_var 1) x_int)) a_nil)))) a_nil)) (l_cons (l_cons l_nil))))) (dss_one (z_ret x_bl)) z_nil) (dss_cons (z_if (q_not (q_val (x_call (ok__law_is T) (hr.mono (by decide)) tk0 T.m__law_is T.t__law_is.kp T.b__law_is (a_cons (x_own T.op_Motion___sub__ (ok_Motion___sub__ T) (hr.mono (by decide)) tk0 (de_var 3) (de_var 4)) (a_cons (x_tup (a_cons (x_op op_sub prim_sub (x_ix rfl (de_var 0) x_int) (x_ix rfl (de_var 1) x_int)) (a_cons (x_op op_sub prim_sub (x_ix rfl (de_var 0) x_int) (x_ix rfl (de_var 1) x_int)) (a_cons (x_op op_sub prim_sub (x_ix rfl (de_var 0) x_int) (x_ix rfl (de_var 1) x_int)) a_nil)))) a_nil)) (l_cons (l_cons l_nil))))) (dss_one (z_ret x_bl)) z_nil) (dss_cons (z_if (dt_w (w_or (q_not (q_val (x_call (ok__law_is T) (hr.mono (by decide)) tk0 T.m__law_is T.t__law_is.kp T.b__law_is (a_cons (x_un (un_own T.ng_Motion___neg__ (ok_Motion___neg__ T) (hr.mono (by decide))) prim_ownN (de_var 3)) (a_cons (x_tup (a_cons (x_un un_neg prim_neg (x_ix rfl (de_var 0) x_int)) (a_cons (x_un un_neg prim_neg (x_ix rfl (de_var 0) x_int)) (a_cons (x_un un_neg prim_neg (x_ix rfl (de_var 0) x_int)) a_nil)))) a_nil)) (l_cons (l_cons l_nil))))) (w_or1 (q_not (q_val (x_call (ok__law_is T) (hr.mono (by decide)) tk0 T.m__law_is T.t__law_is.kp T.b__law_is (a_cons (x_op (op_ownI T.op_Motion___mul__ T.oi_Motion___mul__ (ok_Motion___mul__ T) (hr.mono (by decide))) prim_ownI (de_var 3) (de_var 2)) (a_cons (x_tup (a_cons (x_op op_mulX prim_mul (x_ix rfl (de_var 0) x_int) (de_var 2)) (a_cons (x_op op_mulX prim_mul (x_ix rfl (de_var 0) x_int) (de_var 2)) (a_cons (x_op op_mulX prim_mul (x_ix rfl (de_var 0) x_int) (de_var 2)) a_nil)))) a_nil)) (l_cons (l_cons l_nil)))))))) (dss_one (z_ret x_bl)) z_nil) (dss_cons (z_if (dt_w (w_or (q_not (q_val (x_call (ok__law_is T) (hr.mono (by decide)) tk0 T.m__law_is T.t__law_is.kp T.b__law_is (a_cons (de_var 3) (a_cons (de_var 0) a_nil)) (l_cons (l_cons l_nil))))) (w_or1 (q_not (q_val (x_call (ok__law_is T) (hr.mono (by decide)) tk0 T.m__law_is T.t__law_is.kp T.b__law_is (a_cons (de_var 4) (a_cons (de_var 1) a_nil)) (l_cons (l_cons l_nil)))))))) (dss_one (z_ret x_bl)) z_nil) (dss_cons (z_if (dt_w (w_or (q_not (q_val (x_call (ok__law_flag T) (hr.mono (by decide)) tk0 T.m__law_flag T.t__law_flag.kp T.b__law_flag (a_cons (x_cmp (op_oeq rfl T.eq_Motion___eq__ (ok_Motion___eq__ T) (hr.mono (by decide)) (Nat.lt_of_succ_lt (hu_of hr))) (prim_oeq (nfk_Motion T)) (de_var 3) (de_var 4)) (a_cons (x_cmp (op_eqA rfl hr.units) prim_eq (de_var 0) (de_var 1)) a_nil)) (l_cons (l_cons l_nil))))) (w_or (q_cmp op_notBl prim_notBo (x_cmp (op_oeq rfl T.eq_Motion___eq__ (ok_Motion___eq__ T) (hr.mono (by decide)) (Nat.lt_of_succ_lt (hu_of hr))) (prim_oeq (nfk_Motion T)) (de_var 3) (de_var 0)) x_bl) (w_or1 (q_cmp op_notBl prim_notBo (x_cmp (op_oeq rfl T.eq_Motion___eq__ (ok_Motion___eq__ T) (hr.mono (by decide)) (Nat.lt_of_succ_lt (hu_of hr))) (prim_oeq (nfk_Motion T)) (de_var 3) (x_mk T.mk_Force (ok_Force___init__ T) (hr.mono (by decide)) tk0 .nil (fun _ _ => rfl) (a_cons (x_ix rfl (de_var 0) x_int) (a_cons (x_ix rfl (de_var 0) x_int) (a_cons (x_ix rfl (de_var 0) x_int) a_nil))) (l_cons (l_cons (l_cons l_nil))) (by decide))) x_bl))))) (dss_one (z_ret x_bl)) z_nil) (dss_cons (z_if (dt_w (w_or (q_cmp op_notBl prim_notBo (x_cmp (op_oeq rfl T.eq_Motion___eq__ (ok_Motion___eq__ T) (hr.mono (by decide)) (Nat.lt_of_succ_lt (hu_of hr))) (prim_oeq (nfk_Motion T)) (de_var 3) (x_mk T.mk_Motion (ok_Motion___init__ T) (hr.mono (by decide)) tk0 .nil (fun _ _ => rfl) (a_cons (x_ix rfl (de_var 0) x_int) (a_cons (x_ix rfl (de_var 0) x_int) (a_cons (x_ix rfl (de_var 0) x_int) a_nil))) (l_cons (l_cons (l_cons l_nil))) (by decide))) x_bl) (w_or1 (q_cmp op_notBl prim_notBo (x_cmp (op_oeq rfl T.eq_Motion___eq__ (ok_Motion___eq__ T) (hr.mono (by decide)) (Nat.lt_of_succ_lt (hu_of hr))) (prim_oeq (nfk_Motion T)) (de_var 3) (x_mk T.mk_Motion (ok_Motion___init__ T) (hr.mono (by decide)) tk0 .nil (fun _ _ => rfl) (a_cons (x_ix rfl (de_var 0) x_int) (a_cons (x_ix rfl (de_var 0) x_int) (a_cons (x_op (op_add.or op_cat) prim_addIL (x_ix rfl (de_var 0) x_int) x_int) a_nil))) (l_cons (l_cons (l_cons l_nil))) (by decide))) x_bl)))) (dss_one (z_ret x_bl)) z_nil) (dss_cons (z_if (dt_w (w_or (q_cmp op_notBl prim_notBo (x_cmp (op_oeq rfl T.eq_Motion___eq__ (ok_Motion___eq__ T) (hr.mono (by decide)) (Nat.lt_of_succ_lt (hu_of hr))) (prim_oeq (nfk_Motion T)) (de_var 3) (x_mk T.mk_Motion (ok_Motion___init__ T) (hr.mono (by decide)) tk0 .nil (fun _ _ => rfl) (a_cons (x_op (op_add.or op_cat) prim_addIL (x_ix rfl (de_var 0) x_int) x_int) (a_cons (x_ix rfl (de_var 0) x_int) (a_cons (x_ix rfl (de_var 0) x_int) a_nil))) (l_cons (l_cons (l_cons l_nil))) (by decide))) x_bl) (w_or1 (q_cmp op_notBl prim_notBo (x_cmp (op_oeq rfl T.eq_Motion___eq__ (ok_Motion___eq__ T) (hr.mono (by decide)) (Nat.lt_of_succ_lt (hu_of hr))) (prim_oeq (nfk_Motion T)) (de_var 3) (x_mk T.mk_Motion (ok_Motion___init__ T) (hr.mono (by decide)) tk0 .nil (fun _ _ => rfl) (a_cons (x_ix rfl (de_var 0) x_int) (a_cons (x_op op_sub prim_sub (x_ix rfl (de_var 0) x_int) x_int) (a_cons (x_ix rfl (de_var 0) x_int) a_nil))) (l_cons (l_cons (l_cons l_nil))) (by decide))) x_bl)))) (dss_one (z_ret x_bl)) z_nil) (dss_one (z_ret (x_and (x_call (ok__law_flag T) (hr.mono (by decide)) tk0 T.m__law_flag T.t__law_flag.kp T.b__law_flag (a_cons (x_prop T.pr_Motion_is_none (ok_Motion_is_none T) (hr.mono (by decide)) (de_var 3)) (a_cons (x_cmp (op_eqA rfl hr.units) prim_eq (de_var 0) (x_tup (a_cons x_int (a_cons x_int (a_cons x_int a_nil))))) a_nil)) (l_cons (l_cons l_nil))) (x_and (x_cmp op_isBl prim_isBo (x_prop T.pr_Motion_is_none (ok_Motion_is_none T) (hr.mono (by decide)) (x_own T.op_Motion___sub__ (ok_Motion___sub__ T) (hr.mono (by decide)) tk0 (de_var 3) (de_var 3))) x_bl) (de_one (x_call (ok__law_is T) (hr.mono (by decide)) tk0 T.m__law_is T.t__law_is.kp T.b__law_is (a_cons (x_cmtS0 T.cm_Motion_none (ok_Motion_none T) (hr.mono (by decide)) tk0 .nil (fun _ _ => rfl) (x_cls (n := 6) T.m_Motion) (by decide)) (a_cons (x_tup (a_cons x_int (a_cons x_int (a_cons x_int a_nil)))) a_nil)) (l_cons (l_cons l_nil))))))))))))))))⟩

def b_Motion_turning_0 : MS := (sasg (mvar 1) (gem 2 (gcn (gnm 3) (gcn (gnm 4) gnl))))
def b_Motion_turning_1 : MS := (zRet (kMkV 6 m_Motion___init__ [] (mvar 0) (aCons (mvar 2) (aCons (kOp mulI (mvar 2) (mvar 4)) (aCons (kOp mulI (kUn negI (mvar 2)) (mvar 3)) aNil)))))
def b_Motion_turning : MS := (sseq b_Motion_turning_0 b_Motion_turning_1)
def m_Motion_turning : List D → M D := mdef 5 b_Motion_turning
theorem ok_Motion_turning (T : Txt K mg a) : FnOk P w K mg base (L2.CX P w) 5 a.f_Motion_turning a.d_Motion_turning ["cls", "point", "turn"] (spM (gt a) 3 m_Motion_turning) :=
  ok_fd T.t_Motion_turning sc_Motion_turning rfl fun cdv A outer s H E hr => by
    have tk0 := takes_of (X := (cxOf (L2.CX P w) P w K mg base ["cls", "point", "turn", "x", "y"] "Motion.turning" (defScope s_Motion_turning) a.f_Motion_turning cdv A outer s H E)) (E := E) rfl rfl rfl rfl
    have po0 : PassesOwn (model P w) (cxOf (L2.CX P w) P w K mg base ["cls", "point", "turn", "x", "y"] "Motion.turning" (defScope s_Motion_turning) a.f_Motion_turning cdv A outer s H E).A (cxOf (L2.CX P w) P w K mg base ["cls", "point", "turn", "x", "y"] "Motion.turning" (defScope s_Motion_turning) a.f_Motion_turning cdv A outer s H E).env (cxOf (L2.CX P w) P w K mg base ["cls", "point", "turn", "x", "y"] "Motion.turning" (defScope s_Motion_turning) a.f_Motion_turning cdv A outer s H E).xe := passes_of rfl
    exact ⟨_, (dss_cons (ds_asg (vs := [3, 4]) (de_var 1) (g_sq rfl rfl (g_cons (dg_name (i := 3) (by decide) sc_Motion_turning.nd) (g_cons (dg_name (i := 4) (by decide) sc_Motion_turning.nd) g_nil)))) (dss_one (z_ret (x_makeV T.mk_Motion (ok_Motion___init__ T) (hr.mono (by decide)) tk0 .nil (fun _ _ => rfl) (de_var 0) (a_cons (de_var 2) (a_cons (x_op op_mulX prim_mul (de_var 2) (de_var 4)) (a_cons (x_op op_mulX prim_mul (x_un un_neg prim_neg (de_var 2)) (de_var 3)) a_nil))) (l_cons (l_cons (l_cons l_nil))) (by decide)))))⟩

def b_Motion_at_0 : MS := (sasg (mvar 1) (gem 2 (gcn (gnm 2) (gcn (gnm 3) gnl))))
def b_Motion_at_1 : MS := (zRet (kCall tupD (aCons (kOp subI (kFld cf_across "across" (mvar 0)) (kOp mulI (kFld cf_turn "turn" (mvar 0)) (mvar 3))) (aCons (kOp addIL (kFld cf_up "up" (mvar 0)) (kOp mulI (kFld cf_turn "turn" (mvar 0)) (mvar 2))) aNil))))
def b_Motion_at : MS := (sseq b_Motion_at_0 b_Motion_at_1)
def m_Motion_at : List D → M D := mdef 4 b_Motion_at
theorem ok_Motion_at (T : Txt K mg a) : FnOk P w K mg base (L2.CX P w) 1 a.f_Motion_at a.d_Motion_at ["self", "point"] (spM (gt a) 2 m_Motion_at) :=
  ok_fd T.t_Motion_at sc_Motion_at rfl fun cdv A outer s H E hr => by
    have tk0 := takes_of (X := (cxOf (L2.CX P w) P w K mg base ["self", "point", "x", "y"] "Motion.at" (defScope s_Motion_at) a.f_Motion_at cdv A outer s H E)) (E := E) rfl rfl rfl rfl
    have po0 : PassesOwn (model P w) (cxOf (L2.CX P w) P w K mg base ["self", "point", "x", "y"] "Motion.at" (defScope s_Motion_at) a.f_Motion_at cdv A outer s H E).A (cxOf (L2.CX P w) P w K mg base ["self", "point", "x", "y"] "Motion.at" (defScope s_Motion_at) a.f_Motion_at cdv A outer s H E).env (cxOf (L2.CX P w) P w K mg base ["self", "point", "x", "y"] "Motion.at" (defScope s_Motion_at) a.f_Motion_at cdv A outer s H E).xe := passes_of rfl
    exact ⟨_, (dss_cons (ds_asg (vs := [2, 3]) (de_var 1) (g_sq rfl rfl (g_cons (dg_name (i := 2) (by decide) sc_Motion_at.nd) (g_cons (dg_name (i := 3) (by decide) sc_Motion_at.nd) g_nil)))) (dss_one (z_ret (x_tup (a_cons (x_op op_sub prim_sub (x_fld (fk_across T) (de_var 0)) (x_op op_mulX prim_mul (x_fld (fk_turn T) (de_var 0)) (de_var 3))) (a_cons (x_op (op_add.or op_cat) prim_addIL (x_fld (fk_up T) (de_var 0)) (x_op op_mulX prim_mul (x_fld (fk_turn T) (de_var 0)) (de_var 2))) a_nil))))))⟩

def b_Motion_measure : MS := (zRet (kOp addIL (kOp addIL (kOp mulI (kFld cf_turn "turn" (mvar 0)) (kFld cf_moment "moment" (mvar 1))) (kOp mulI (kFld cf_across "across" (mvar 0)) (kFld cf_across "across" (mvar 1)))) (kOp mulI (kFld cf_up "up" (mvar 0)) (kFld cf_up "up" (mvar 1)))))
def m_Motion_measure : List D → M D := mdef 2 b_Motion_measure
theorem ok_Motion_measure (T : Txt K mg a) : FnOk P w K mg base (L2.CX P w) 1 a.f_Motion_measure a.d_Motion_measure ["self", "force"] (spM (gt a) 2 m_Motion_measure) :=
  ok_fd T.t_Motion_measure sc_Motion_measure rfl fun cdv A outer s H E hr => by
    have tk0 := takes_of (X := (cxOf (L2.CX P w) P w K mg base ["self", "force"] "Motion.measure" (defScope s_Motion_measure) a.f_Motion_measure cdv A outer s H E)) (E := E) rfl rfl rfl rfl
    have po0 : PassesOwn (model P w) (cxOf (L2.CX P w) P w K mg base ["self", "force"] "Motion.measure" (defScope s_Motion_measure) a.f_Motion_measure cdv A outer s H E).A (cxOf (L2.CX P w) P w K mg base ["self", "force"] "Motion.measure" (defScope s_Motion_measure) a.f_Motion_measure cdv A outer s H E).env (cxOf (L2.CX P w) P w K mg base ["self", "force"] "Motion.measure" (defScope s_Motion_measure) a.f_Motion_measure cdv A outer s H E).xe := passes_of rfl
    exact ⟨_, (dss_one (z_ret (x_op (op_add.or op_cat) prim_addIL (x_op (op_add.or op_cat) prim_addIL (x_op op_mulX prim_mul (x_fld (fk_turn T) (de_var 0)) (x_fld (fk_moment T) (de_var 1))) (x_op op_mulX prim_mul (x_fld (fk_across T) (de_var 0)) (x_fld (fk_across T) (de_var 1)))) (x_op op_mulX prim_mul (x_fld (fk_up T) (de_var 0)) (x_fld (fk_up T) (de_var 1))))))⟩

def b_Force_about_0 : MS := (sasg (mvar 1) (gem 2 (gcn (gnm 2) (gcn (gnm 3) gnl))))
def b_Force_about_1 : MS := (zRet (kOp addIL (kOp subI (kFld cf_moment "moment" (mvar 0)) (kOp mulI (mvar 2) (kFld cf_up "up" (mvar 0)))) (kOp mulI (mvar 3) (kFld cf_across "across" (mvar 0)))))
def b_Force_about : MS := (sseq b_Force_about_0 b_Force_about_1)
def m_Force_about : List D → M D := mdef 4 b_Force_about
theorem ok_Force_about (T : Txt K mg a) : FnOk P w K mg base (L2.CX P w) 1 a.f_Force_about a.d_Force_about ["self", "point"] (spM (gt a) 2 m_Force_about) :=
  ok_fd T.t_Force_about sc_Force_about rfl fun cdv A outer s H E hr => by
    have tk0 := takes_of (X := (cxOf (L2.CX P w) P w K mg base ["self", "point", "x", "y"] "Force.about" (defScope s_Force_about) a.f_Force_about cdv A outer s H E)) (E := E) rfl rfl rfl rfl
    have po0 : PassesOwn (model P w) (cxOf (L2.CX P w) P w K mg base ["self", "point", "x", "y"] "Force.about" (defScope s_Force_about) a.f_Force_about cdv A outer s H E).A (cxOf (L2.CX P w) P w K mg base ["self", "point", "x", "y"] "Force.about" (defScope s_Force_about) a.f_Force_about cdv A outer s H E).env (cxOf (L2.CX P w) P w K mg base ["self", "point", "x", "y"] "Force.about" (defScope s_Force_about) a.f_Force_about cdv A outer s H E).xe := passes_of rfl
    exact ⟨_, (dss_cons (ds_asg (vs := [2, 3]) (de_var 1) (g_sq rfl rfl (g_cons (dg_name (i := 2) (by decide) sc_Force_about.nd) (g_cons (dg_name (i := 3) (by decide) sc_Force_about.nd) g_nil)))) (dss_one (z_ret (x_op (op_add.or op_cat) prim_addIL (x_op op_sub prim_sub (x_fld (fk_moment T) (de_var 0)) (x_op op_mulX prim_mul (de_var 2) (x_fld (fk_up T) (de_var 0)))) (x_op op_mulX prim_mul (de_var 3) (x_fld (fk_across T) (de_var 0)))))))⟩

def b_Force_acting_0 : MS := (sasg (mvar 3) (gem 2 (gcn (gnm 4) (gcn (gnm 5) gnl))))
def b_Force_acting_1 : MS := (zRet (kMkV 7 m_Force___init__ [] (mvar 0) (aCons (mvar 1) (aCons (mvar 2) (aCons (kOp subI (kOp mulI (mvar 4) (mvar 2)) (kOp mulI (mvar 5) (mvar 1))) aNil)))))
def b_Force_acting : MS := (sseq b_Force_acting_0 b_Force_acting_1)
def m_Force_acting : List D → M D := mdef 6 b_Force_acting
theorem ok_Force_acting (T : Txt K mg a) : FnOk P w K mg base (L2.CX P w) 5 a.f_Force_acting a.d_Force_acting ["cls", "across", "up", "point"] (spM (gt a) 4 m_Force_acting) :=
  ok_fd T.t_Force_acting sc_Force_acting rfl fun cdv A outer s H E hr => by
    have tk0 := takes_of (X := (cxOf (L2.CX P w) P w K mg base ["cls", "across", "up", "point", "x", "y"] "Force.acting" (defScope s_Force_acting) a.f_Force_acting cdv A outer s H E)) (E := E) rfl rfl rfl rfl
    have po0 : PassesOwn (model P w) (cxOf (L2.CX P w) P w K mg base ["cls", "across", "up", "point", "x", "y"] "Force.acting" (defScope s_Force_acting) a.f_Force_acting cdv A outer s H E).A (cxOf (L2.CX P w) P w K mg base ["cls", "across", "up", "point", "x", "y"] "Force.acting" (defScope s_Force_acting) a.f_Force_acting cdv A outer s H E).env (cxOf (L2.CX P w) P w K mg base ["cls", "across", "up", "point", "x", "y"] "Force.acting" (defScope s_Force_acting) a.f_Force_acting cdv A outer s H E).xe := passes_of rfl
    exact ⟨_, (dss_cons (ds_asg (vs := [4, 5]) (de_var 3) (g_sq rfl rfl (g_cons (dg_name (i := 4) (by decide) sc_Force_acting.nd) (g_cons (dg_name (i := 5) (by decide) sc_Force_acting.nd) g_nil)))) (dss_one (z_ret (x_makeV T.mk_Force (ok_Force___init__ T) (hr.mono (by decide)) tk0 .nil (fun _ _ => rfl) (de_var 0) (a_cons (de_var 1) (a_cons (de_var 2) (a_cons (x_op op_sub prim_sub (x_op op_mulX prim_mul (de_var 4) (de_var 2)) (x_op op_mulX prim_mul (de_var 5) (de_var 1))) a_nil))) (l_cons (l_cons (l_cons l_nil))) (by decide)))))⟩

def b__law_points_0 : MS := (sasg (mvar 2) (gtm 2 (gcn (gnm 5) (gcn (gnm 6) gnl))))
def b__law_points_1 : MS := (spar 7 8 (aCons (kMk 6 m_Motion___init__ [] (aCons (kOp itemD (mvar 0) (kC (.int 0))) (aCons (kOp itemD (mvar 0) (kC (.int 1))) (aCons (kOp itemD (mvar 0) (kC (.int 2))) aNil)))) (aCons (kCmS 6 m_Motion_turning [.int 1] (kC (.cls 6)) (aCons (mvar 2) aNil)) aNil)))
def b__law_points_2 : MS := (zIf (kOr (kNot (kB (kCall m__law_is (aCons (mvar 8) (aCons (kCall tupD (aCons (kC (.int 1)) (aCons (mvar 6) (aCons (kUn negI (mvar 5)) aNil)))) aNil))))) (kNot (kB (kCall m__law_is (aCons (kCmS 6 m_Motion_turning [] (kC (.cls 6)) (aCons (kCall listD (aCons (mvar 2) aNil)) (aCons (mvar 3) aNil))) (aCons (kCall tupD (aCons (mvar 3) (aCons (kOp mulI (mvar 3) (mvar 6)) (aCons (kOp mulI (kUn negI (mvar 3)) (mvar 5)) aNil)))) aNil)))))) (zRet (kC (.bl false))) zNx)
def b__law_points_3 : MS := (spar 9 10 (aCons (kMeth 6 "at" m_Motion_at [] (mvar 7) (aCons (mvar 2) aNil)) (aCons (kMk 7 m_Force___init__ [] (aCons (kOp itemD (mvar 1) (kC (.int 1))) (aCons (kOp itemD (mvar 1) (kC (.int 2))) (aCons (kOp itemD (mvar 1) (kC (.int 0))) aNil)))) aNil)))
def b__law_points_4 : MS := (zIf (kOr (kNot (kB (kCall (isiA ans) (aCons (mvar 9) (aCons (kC (.ty "tuple")) aNil))))) (kOr (kB (kOp neA (kCall lenD (aCons (mvar 9) aNil)) (kC (.int 2)))) (kB (kOp neA (kMeth 6 "at" m_Motion_at [] (mvar 8) (aCons (mvar 2) aNil)) (kCall tupD (aCons (kC (.int 0)) (aCons (kC (.int 0)) aNil))))))) (zRet (kC (.bl false))) zNx)
def b__law_points_5 : MS := (zIf (kOr (kNot (kB (kCall m__law_number_is (aCons (kOp itemD (mvar 9) (kC (.int 0))) (aCons (kOp subI (kOp itemD (mvar 0) (kC (.int 1))) (kOp mulI (kOp itemD (mvar 0) (kC (.int 0))) (mvar 6))) aNil))))) (kNot (kB (kCall m__law_number_is (aCons (kOp itemD (mvar 9) (kC (.int 1))) (aCons (kOp addIL (kOp itemD (mvar 0) (kC (.int 2))) (kOp mulI (kOp itemD (mvar 0) (kC (.int 0))) (mvar 5))) aNil)))))) (zRet (kC (.bl false))) zNx)
def b__law_points_6 : MS := (zIf (kOr (kNot (kB (kCall m__law_number_is (aCons (kMeth 6 "measure" m_Motion_measure [] (mvar 8) (aCons (mvar 10) aNil)) (aCons (kOp addIL (kOp subI (kOp itemD (mvar 1) (kC (.int 0))) (kOp mulI (mvar 5) (kOp itemD (mvar 1) (kC (.int 2))))) (kOp mulI (mvar 6) (kOp itemD (mvar 1) (kC (.int 1))))) aNil))))) (kB (kOp neA (kMeth 7 "about" m_Force_about [] (mvar 10) (aCons (mvar 2) aNil)) (kMeth 6 "measure" m_Motion_measure [] (mvar 8) (aCons (mvar 10) aNil))))) (zRet (kC (.bl false))) zNx)
def b__law_points_7 : MS := (sasg (kCmS 7 m_Force_acting [] (kC (.cls 7)) (aCons (kOp itemD (mvar 1) (kC (.int 1))) (aCons (kOp itemD (mvar 1) (kC (.int 2))) (aCons (mvar 2) aNil)))) (gnm 4))
def b__law_points_8 : MS := (zRet (kCall m__law_number_is (aCons (kMeth 6 "measure" m_Motion_measure [] (mvar 7) (aCons (mvar 4) aNil)) (aCons (kOp addIL (kOp mulI (kOp itemD (mvar 1) (kC (.int 1))) (kOp subI (kOp itemD (mvar 0) (kC (.int 1))) (kOp mulI (kOp itemD (mvar 0) (kC (.int 0))) (mvar 6)))) (kOp mulI (kOp itemD (mvar 1) (kC (.int 2))) (kOp addIL (kOp itemD (mvar 0) (kC (.int 2))) (kOp mulI (kOp itemD (mvar 0) (kC (.int 0))) (mvar 5))))) aNil))))
def b__law_points : MS := (sseq b__law_points_0 (sseq b__law_points_1 (sseq b__law_points_2 (sseq b__law_points_3 (sseq b__law_points_4 (sseq b__law_points_5 (sseq b__law_points_6 (sseq b__law_points_7 b__law_points_8))))))))
def m__law_points : List D → M D := mdef 11 b__law_points
theorem ok__law_points (T : Txt K mg a) : FnOk P w K mg base (L2.CX P w) 6 a.f__law_points a.d__law_points ["_law_a", "_law_f", "_law_point", "_law_times"] (spM (gt a) 4 m__law_points) :=
  ok_fd T.t__law_points sc__law_points rfl fun cdv A outer s H E hr => by
    have tk0 := takes_of (X := (cxOf (L2.CX P w) P w K mg base ["_law_a", "_law_f", "_law_point", "_law_times", "_law_acting", "_law_x", "_law_y", "_law_one", "_law_turned", "_law_told", "_law_force"] "_law_points" (defScope s__law_points) a.f__law_points cdv A outer s H E)) (E := E) rfl rfl rfl rfl
    have po0 : PassesOwn (model P w) (cxOf (L2.CX P w) P w K mg base ["_law_a", "_law_f", "_law_point", "_law_times", "_law_acting", "_law_x", "_law_y", "_law_one", "_law_turned", "_law_told", "_law_force"] "_law_points" (defScope s__law_points) a.f__law_points cdv A outer s H E).A (cxOf (L2.CX P w) P w K mg base ["_law_a", "_law_f", "_law_point", "_law_times", "_law_acting", "_law_x", "_law_y", "_law_one", "_law_turned", "_law_told", "_law_force"] "_law_points" (defScope s__law_points) a.f__law_points cdv A outer s H E).env (cxOf (L2.CX P w) P w K mg base ["_law_a", "_law_f", "_law_point", "_law_times", "_law_acting", "_law_x", "_law_y", "_law_one", "_law_turned", "_law_told", "_law_force"] "_law_points" (defScope s__law_points) a.f__law_points cdv A outer s H E).xe := passes_of rfl
    exact ⟨_, (dss_cons (ds_asg (vs := [5, 6]) (de_var 2) (g_tup rfl rfl (g_cons (dg_name (i := 5) (by decide) sc__law_points.nd) (g_cons (dg_name (i := 6) (by decide) sc__law_points.nd) g_nil)))) (dss_cons (ds_par (i := 7) (j := 8) rfl sc__law_points.nd rfl rfl (by decide) rfl rfl (a_cons (x_mk T.mk_Motion (ok_Motion___init__ T) (hr.mono (by decide)) tk0 .nil (fun _ _ => rfl) (a_cons (x_ix rfl (de_var 0) x_int) (a_cons (x_ix rfl (de_var 0) x_int) (a_cons (x_ix rfl (de_var 0) x_int) a_nil))) (l_cons (l_cons (l_cons l_nil))) (by decide)) (a_cons (x_cmtS T.cm1_Motion_turning (ok_Motion_turning T) (hr.mono (by decide)) tk0 (T.bd1_Motion_turning).choose_spec.1 (fun _ _ => ⟨_, _, rfl, rfl, rfl⟩) (x_cls (n := 6) T.m_Motion) (a_cons (de_var 2) a_nil) (l_cons l_nil) (by decide)) a_nil))) (dss_cons (z_if (dt_w (w_or (q_not (q_val (x_call (ok__law_is T) (hr.mono (by decide)) tk0 T.m__law_is T.t__law_is.kp T.b__law_is (a_cons (de_var 8) (a_cons (x_tup (a_cons x_int (a_cons (de_var 6) (a_cons (x_un un_neg prim_neg (de_var 5)) a_nil)))) a_nil)) (l_cons (l_cons l_nil))))) (w_or1 (q_not (q_val (x_call (ok__law_is T) (hr.mono (by decide)) tk0 T.m__law_is T.t__law_is.kp T.b__law_is (a_cons (x_cmtS T.cm_Motion_turning (ok_Motion_turning T) (hr.mono (by decide)) tk0 .nil (fun _ _ => rfl) (x_cls (n := 6) T.m_Motion) (a_cons (x_callTy (cr_list rfl) prim_list T.n_list (by decide +kernel) (a_cons (de_var 2) a_nil)) (a_cons (de_var 3) a_nil)) (l_cons (l_cons l_nil)) (by decide)) (a_cons (x_tup (a_cons (de_var 3) (a_cons (x_op op_mulX prim_mul (de_var 3) (de_var 6)) (a_cons (x_op op_mulX prim_mul (x_un un_neg prim_neg (de_var 3)) (de_var 5)) a_nil)))) a_nil)) (l_cons (l_cons l_nil)))))))) (dss_one (z_ret x_bl)) z_nil) (dss_cons (ds_par (i := 9) (j := 10) rfl sc__law_points.nd rfl rfl (by decide) rfl rfl (a_cons (x_meth T.mt_Motion_at (ok_Motion_at T) (hr.mono (by decide)) tk0 .nil (fun _ _ => rfl) (de_var 7) (a_cons (de_var 2) a_nil) (l_cons l_nil) (by decide)) (a_cons (x_mk T.mk_Force (ok_Force___init__ T) (hr.mono (by decide)) tk0 .nil (fun _ _ => rfl) (a_cons (x_ix rfl (de_var 1) x_int) (a_cons (x_ix rfl (de_var 1) x_int) (a_cons (x_ix rfl (de_var 1) x_int) a_nil))) (l_cons (l_cons (l_cons l_nil))) (by decide)) a_nil))) (dss_cons (z_if (dt_w (w_or (q_not (q_val (x_callB (cr_isi rfl) (prim_isiA (isa T)) T.n_isinstance (by decide +kernel) (a_cons (de_var 9) (a_cons (x_ty (n := "tuple") T.n_tuple (by decide +kernel)) a_nil))))) (w_or (q_cmp (op_neA rfl hr.units) prim_ne (x_callB (cr_len rfl) (prim_len) T.n_len (by decide +kernel) (a_cons (de_var 9) a_nil)) x_int) (w_or1 (q_cmp (op_neA rfl hr.units) prim_ne (x_meth T.mt_Motion_at (ok_Motion_at T) (hr.mono (by decide)) tk0 .nil (fun _ _ => rfl) (de_var 8) (a_cons (de_var 2) a_nil) (l_cons l_nil) (by decide)) (x_tup (a_cons x_int (a_cons x_int a_nil)))))))) (dss_one (z_ret x_bl)) z_nil) (dss_cons (z_if (dt_w (w_or (q_not (q_val (x_call (ok__law_number_is T) (hr.mono (by decide)) tk0 T.m__law_number_is T.t__law_number_is.kp T.b__law_number_is (a_cons (x_ix rfl (de_var 9) x_int) (a_cons (x_op op_sub prim_sub (x_ix rfl (de_var 0) x_int) (x_op op_mulX prim_mul (x_ix rfl (de_var 0) x_int) (de_var 6))) a_nil)) (l_cons (l_cons l_nil))))) (w_or1 (q_not (q_val (x_call (ok__law_number_is T) (hr.mono (by decide)) tk0 T.m__law_number_is T.t__law_number_is.kp T.b__law_number_is (a_cons (x_ix rfl (de_var 9) x_int) (a_cons (x_op (op_add.or op_cat) prim_addIL (x_ix rfl (de_var 0) x_int) (x_op op_mulX prim_mul (x_ix rfl (de_var 0) x_int) (de_var 5))) a_nil)) (l_cons (l_cons l_nil)))))))) (dss_one (z_ret x_bl)) z_nil) (dss_cons (z_if (dt_w (w_or (q_not (q_val (x_call (ok__law_number_is T) (hr.mono (by decide)) tk0 T.m__law_number_is T.t__law_number_is.kp T.b__law_number_is (a_cons (x_meth T.mt_Motion_measure (ok_Motion_measure T) (hr.mono (by decide)) tk0 .nil (fun _ _ => rfl) (de_var 8) (a_cons (de_var 10) a_nil) (l_cons l_nil) (by decide)) (a_cons (x_op (op_add.or op_cat) prim_addIL (x_op op_sub prim_sub (x_ix rfl (de_var 1) x_int) (x_op op_mulX prim_mul (de_var 5) (x_ix rfl (de_var 1) x_int))) (x_op op_mulX prim_mul (de_var 6) (x_ix rfl (de_var 1) x_int))) a_nil)) (l_cons (l_cons l_nil))))) (w_or1 (q_cmp (op_neA rfl hr.units) prim_ne (x_meth T.mt_Force_about (ok_Force_about T) (hr.mono (by decide)) tk0 .nil (fun _ _ => rfl) (de_var 10) (a_cons (de_var 2) a_nil) (l_cons l_nil) (by decide)) (x_meth T.mt_Motion_measure (ok_Motion_measure T) (hr.mono (by decide)) tk0 .nil (fun _ _ => rfl) (de_var 8) (a_cons (de_var 10) a_nil) (l_cons l_nil) (by decide)))))) (dss_one (z_ret x_bl)) z_nil) (dss_cons (ds_set (i := 4) sc__law_points.nd (x_cmtS T.cm_Force_acting (ok_Force_acting T) (hr.mono (by decide)) tk0 .nil (fun _ _ => rfl) (x_cls (n := 7) T.m_Force) (a_cons (x_ix rfl (de_var 1) x_int) (a_cons (x_ix rfl (de_var 1) x_int) (a_cons (de_var 2) a_nil))) (l_cons (l_cons (l_cons l_nil))) (by decide))) (dss_one (z_ret (x_call (ok__law_number_is T) (hr.mono (by decide)) tk0 T.m__law_number_is T.t__law_number_is.kp T.b__law_number_is (a_cons (x_meth T.mt_Motion_measure (ok_Motion_measure T) (hr.mono (by decide)) tk0 .nil (fun _ _ => rfl) (de_var 7) (a_cons (de_var 4) a_nil) (l_cons l_nil) (by decide)) (a_cons (x_op (op_add.or op_cat) prim_addIL (x_op op_mulX prim_mul (x_ix rfl (de_var 1) x_int) (x_op op_sub prim_sub (x_ix rfl (de_var 0) x_int) (x_op op_mulX prim_mul (x_ix rfl (de_var 0) x_int) (de_var 6)))) (x_op op_mulX prim_mul (x_ix rfl (de_var 1) x_int) (x_op (op_add.or op_cat) prim_addIL (x_ix rfl (de_var 0) x_int) (x_op op_mulX prim_mul (x_ix rfl (de_var 0) x_int) (de_var 5))))) a_nil)) (l_cons (l_cons l_nil)))))))))))))⟩

def b_ratio_0 : MS := (zIf (kB (kOp eqA (mvar 1) (kC (.int 0)))) (zRaise 1) zNx)
def b_ratio_1 : MS := (sasg (kCall gcdD (aCons (mvar 0) (aCons (mvar 1) aNil))) (gnm 2))
def b_ratio_2 : MS := (zIf (kB (kOp ltI (mvar 1) (kC (.int 0)))) (sasg (kUn negI (mvar 2)) (gnm 2)) zNx)
def b_ratio_3 : MS := (zRet (kCall tupD (aCons (kOp fdvI (mvar 0) (mvar 2)) (aCons (kOp fdvI (mvar 1) (mvar 2)) aNil))))
def b_ratio : MS := (sseq b_ratio_0 (sseq b_ratio_1 (sseq b_ratio_2 b_ratio_3)))
def m_ratio : List D → M D := mdef 3 b_ratio
theorem ok_ratio (T : Txt K mg a) : FnOk P w K mg base (L2.CX P w) 3 a.f_ratio a.d_ratio ["top", "bottom"] (spM (gt a) 2 m_ratio) :=
  ok_fd T.t_ratio sc_ratio rfl fun cdv A outer s H E hr => by
    have tk0 := takes_of (X := (cxOf (L2.CX P w) P w K mg base ["top", "bottom", "divisor"] "ratio" (defScope s_ratio) a.f_ratio cdv A outer s H E)) (E := E) rfl rfl rfl rfl
    have po0 : PassesOwn (model P w) (cxOf (L2.CX P w) P w K mg base ["top", "bottom", "divisor"] "ratio" (defScope s_ratio) a.f_ratio cdv A outer s H E).A (cxOf (L2.CX P w) P w K mg base ["top", "bottom", "divisor"] "ratio" (defScope s_ratio) a.f_ratio cdv A outer s H E).env (cxOf (L2.CX P w) P w K mg base ["top", "bottom", "divisor"] "ratio" (defScope s_ratio) a.f_ratio cdv A outer s H E).xe := passes_of rfl
    exact ⟨_, (dss_cons (z_if (q_cmp (op_eqA rfl hr.units) prim_eq (de_var 1) x_int) (dss_one (z_raise0 (cn := 1) rfl tk0 T.e_BadRatio sci_BadRatio rfl (hr.mono (by decide)))) z_nil) (dss_cons (ds_set (i := 2) sc_ratio.nd (x_callG cr_gcd prim_gcd T.g_gcd (a_cons (de_var 0) (a_cons (de_var 1) a_nil)))) (dss_cons (z_if (q_cmp op_lt prim_lt (de_var 1) x_int) (dss_one (ds_set (i := 2) sc_ratio.nd (x_un un_neg prim_neg (de_var 2)))) z_nil) (dss_one (z_ret (x_tup (a_cons (x_op op_fdivX prim_fdv (de_var 0) (de_var 2)) (a_cons (x_op op_fdivX prim_fdv (de_var 1) (de_var 2)) a_nil))))))))⟩

def b_Motion_measure_of : MS := (zRet (kCall m_ratio (aCons (kMeth 6 "measure" m_Motion_measure [] (mvar 0) (aCons (kFld cf_force "force" (mvar 1)) aNil)) (aCons (kFld cf_parts "parts" (mvar 1)) aNil))))
def m_Motion_measure_of : List D → M D := mdef 2 b_Motion_measure_of
theorem ok_Motion_measure_of (T : Txt K mg a) : FnOk P w K mg base (L2.CX P w) 4 a.f_Motion_measure_of a.d_Motion_measure_of ["self", "thrust"] (spM (gt a) 2 m_Motion_measure_of) :=
  ok_fd T.t_Motion_measure_of sc_Motion_measure_of rfl fun cdv A outer s H E hr => by
    have tk0 := takes_of (X := (cxOf (L2.CX P w) P w K mg base ["self", "thrust"] "Motion.measure_of" (defScope s_Motion_measure_of) a.f_Motion_measure_of cdv A outer s H E)) (E := E) rfl rfl rfl rfl
    have po0 : PassesOwn (model P w) (cxOf (L2.CX P w) P w K mg base ["self", "thrust"] "Motion.measure_of" (defScope s_Motion_measure_of) a.f_Motion_measure_of cdv A outer s H E).A (cxOf (L2.CX P w) P w K mg base ["self", "thrust"] "Motion.measure_of" (defScope s_Motion_measure_of) a.f_Motion_measure_of cdv A outer s H E).env (cxOf (L2.CX P w) P w K mg base ["self", "thrust"] "Motion.measure_of" (defScope s_Motion_measure_of) a.f_Motion_measure_of cdv A outer s H E).xe := passes_of rfl
    exact ⟨_, (dss_one (z_ret (x_call (ok_ratio T) (hr.mono (by decide)) tk0 T.m_ratio T.t_ratio.kp T.b_ratio (a_cons (x_meth T.mt_Motion_measure (ok_Motion_measure T) (hr.mono (by decide)) tk0 .nil (fun _ _ => rfl) (de_var 0) (a_cons (x_fld (fk_force T) (de_var 1)) a_nil) (l_cons l_nil) (by decide)) (a_cons (x_fld (fk_parts T) (de_var 1)) a_nil)) (l_cons (l_cons l_nil)))))⟩

def b_Thrust___init___0 : MS := (zIf (kOr (kNot (kB (kCall (isiA ans) (aCons (mvar 1) (aCons (kC (.cls 7)) aNil))))) (kOr (kNot (kB (kCall m_is_number (aCons (mvar 2) aNil)))) (kB (kOp ltI (mvar 2) (kC (.int 1)))))) (zRaise 3) zNx)
def b_Thrust___init___1 : MS := (sasg (kCall gcd4D (aCons (kFld cf_across "across" (mvar 1)) (aCons (kFld cf_up "up" (mvar 1)) (aCons (kFld cf_moment "moment" (mvar 1)) (aCons (mvar 2) aNil))))) (gnm 3))
def b_Thrust___init___2 : MS := (objPut 8 "force" (mvar 0) (kMk 7 m_Force___init__ [] (aCons (kOp fdvI (kFld cf_across "across" (mvar 1)) (mvar 3)) (aCons (kOp fdvI (kFld cf_up "up" (mvar 1)) (mvar 3)) (aCons (kOp fdvI (kFld cf_moment "moment" (mvar 1)) (mvar 3)) aNil)))))
def b_Thrust___init___3 : MS := (objPut 8 "parts" (mvar 0) (kOp fdvI (mvar 2) (mvar 3)))
def b_Thrust___init__ : MS := (sseq b_Thrust___init___0 (sseq b_Thrust___init___1 (sseq b_Thrust___init___2 b_Thrust___init___3)))
def m_Thrust___init__ : List D → M D := mdef 4 b_Thrust___init__
theorem ok_Thrust___init__ (T : Txt K mg a) : FnOk P w K mg base (L2.CX P w) 5 a.f_Thrust___init__ a.d_Thrust___init__ ["self", "force", "parts"] (spM (gt a) 3 m_Thrust___init__) :=
  ok_fd T.t_Thrust___init__ sc_Thrust___init__ rfl fun cdv A outer s H E hr => by
    have tk0 := takes_of (X := (cxOf (L2.CX P w) P w K mg base ["self", "force", "parts", "divisor"] "Thrust.__init__" (defScope s_Thrust___init__) a.f_Thrust___init__ cdv A outer s H E)) (E := E) rfl rfl rfl rfl
    have po0 : PassesOwn (model P w) (cxOf (L2.CX P w) P w K mg base ["self", "force", "parts", "divisor"] "Thrust.__init__" (defScope s_Thrust___init__) a.f_Thrust___init__ cdv A outer s H E).A (cxOf (L2.CX P w) P w K mg base ["self", "force", "parts", "divisor"] "Thrust.__init__" (defScope s_Thrust___init__) a.f_Thrust___init__ cdv A outer s H E).env (cxOf (L2.CX P w) P w K mg base ["self", "force", "parts", "divisor"] "Thrust.__init__" (defScope s_Thrust___init__) a.f_Thrust___init__ cdv A outer s H E).xe := passes_of rfl
    exact ⟨_, (dss_cons (z_if (dt_w (w_or (q_not (q_val (x_callB (cr_isi rfl) (prim_isiA (isa T)) T.n_isinstance (by decide +kernel) (a_cons (de_var 1) (a_cons (x_cls (n := 7) T.m_Force) a_nil))))) (w_or (q_not (q_val (x_call (ok_is_number T) (hr.mono (by decide)) tk0 T.m_is_number T.t_is_number.kp T.b_is_number (a_cons (de_var 2) a_nil) (l_cons l_nil)))) (w_or1 (q_cmp op_lt prim_lt (de_var 2) x_int))))) (dss_one (z_raise0 (cn := 3) rfl tk0 T.e_BadThrust sci_BadThrust rfl (hr.mono (by decide)))) z_nil) (dss_cons (ds_set (i := 3) sc_Thrust___init__.nd (x_callG cr_gcd4 prim_gcd4 T.g_gcd (a_cons (x_fld (fk_across T) (de_var 1)) (a_cons (x_fld (fk_up T) (de_var 1)) (a_cons (x_fld (fk_moment T) (de_var 1)) (a_cons (de_var 2) a_nil)))))) (dss_cons (ds_objPut 8 (fk_force T 8 rfl).1 (fk_force T 8 rfl).2 (de_var 0) (x_mk T.mk_Force (ok_Force___init__ T) (hr.mono (by decide)) tk0 .nil (fun _ _ => rfl) (a_cons (x_op op_fdivX prim_fdv (x_fld (fk_across T) (de_var 1)) (de_var 3)) (a_cons (x_op op_fdivX prim_fdv (x_fld (fk_up T) (de_var 1)) (de_var 3)) (a_cons (x_op op_fdivX prim_fdv (x_fld (fk_moment T) (de_var 1)) (de_var 3)) a_nil))) (l_cons (l_cons (l_cons l_nil))) (by decide))) (dss_one (ds_objPut 8 (fk_parts T 8 rfl).1 (fk_parts T 8 rfl).2 (de_var 0) (x_op op_fdivX prim_fdv (de_var 2) (de_var 3)))))))⟩

end
end K11

set_option Elab.async false
set_option linter.all false
set_option maxRecDepth 100000
set_option maxHeartbeats 4000000
set_option autoImplicit false
namespace K11
open PySem L2 PySem.Spec PyProof.Rows Tw
noncomputable section
variable {P : Program} {w : World} {K : PySem.W.Frag} {mg : Str → Option Value} {base : Heap} {a : Ad}
theorem ok__law_bag (T : Txt K mg a) : FnOk P w K mg base (L2.CX P w) 1 a.f__law_bag a.d__law_bag ["_law_script", "_law_at"] (spBag K) := by
  refine T.t__law_bag.ok sc__law_bag (fun vs H Q E h => by obtain ⟨_, _, _, rfl, _⟩ := h; rfl) fun cdv A outer s H vs Q E hr h => ?_
  obtain ⟨l, ns, at', rfl, hl, h63, ha0, ha1, k⟩ := h
  refine ⟨_, pss_cons (ps_set (i := 2) sc__law_bag.nd rfl (.inl rfl) (pe_ifExp (pt_cmpR op_lt (pv 1) (pe_callB (cr_len rfl) (by rfl) T.n_len (by decide +kernel) (pa_cons (pv 0) pa_nil)) (by decide)) (pe_callB call_abs (by rfl) T.n_abs (by decide +kernel) (pa_cons (pe_ix (ix_list) (pv 0) (pv 1) (fun _ _ => rfl)) pa_nil)) pe_int))
    (pss_cons (ps_set (i := 3) sc__law_bag.nd rfl (.inl rfl) (pe_op op_add pe_int (pe_op op_mul pe_int (pv 1))))
    (pss_cons (ps_for (passes_of rfl) rfl (pi_enum (by rfl) T.n_enumerate (pa_cons (pe_slice sl_list (pv 0) po_none (po_some pe_int)) pa_nil)) (pg_tup rfl (pgs_cons (pg_name (i := 4) sc__law_bag.nd rfl (.inl rfl)) (pgs_cons (pg_name (i := 5) sc__law_bag.nd rfl (.inl rfl)) pgs_nil)))
      (pss_one (ps_set (i := 3) sc__law_bag.nd rfl (.inl rfl) (pe_op op_mod (pe_callTy call_int1 (by rfl) T.n_int (by decide +kernel) (pa_cons (pe_op op_add (pe_op op_add (pe_op op_mul (pv 3) pe_int) (pe_op op_mod (pe_callTy call_int1 (by rfl) T.n_int (by decide +kernel) (pa_cons (pv 5) pa_nil)) pe_int)) (pe_op op_mul pe_int (pv 4))) pa_nil)) pe_int))))
    (pss_one (ps_ret (pe_lst (pa_cons (pe_ifExp (pt_cmpR op_ge (pv 2) (pe_op op_pow pe_int pe_int) (by decide)) (pv 2) pe_int) (pa_cons (pv 3) (pa_cons pe_int pa_nil)))))))), ?_⟩
  refine ⟨_, rfl, _, rfl, l, _, rfl, .inl hl, _, _, rfl, rfl, _, rfl, ?_⟩
  have fin : ∀ (c : Int), (∀ (mix : Int) (v4 v5 : Option V) (H2 : Hp), Same H H2 → tRet (tLst (tCons (tIf (tTest (tOp (rI0 fun i j => .bl (decide (j ≤ i))) (tVar 2) (tOp (rI CPow fun i j => .int (i ^ j.toNat)) (tC (.int 10)) (tC (.int 18))))) (tVar 2) (tC (.int 0))) (tCons (tVar 3) (tCons (tC (.int 0)) tNil)))) { nx := fun _ H' => Q .non H', rt := Q } [some (.ref l), some (.int at'), some (.int c), some (.int mix), v4, v5] H2) := by
    intro c mix v4 v5 H2 sm
    refine ⟨_, rfl, _, _, rfl, rfl, by unfold CPow; decide, _, _, rfl, rfl, _, rfl, ?_⟩
    dsimp only
    split
    all_goals
      refine ⟨_, rfl, ?_⟩
      try refine ⟨_, rfl, ?_⟩
      refine ⟨(by decide : 3 ≤ sizeLine), fun q hq => ?_⟩
      exact k _ _ _ q (sm.trans fun b o e => by rw [upd_ne (ne_of_none e hq)]; exact e) (sm.free hq) upd_same
  have loop : ∀ (c : Int), (tAsg (tOp (rI0 fun i j => .int (i + j)) (tC (.int 70003)) (tOp (rI CMul fun i j => .int (i * j)) (tC (.int 6997)) (tVar 1))) (gName 3)) { nx := fun σ H1 => tFor (iEnum K (tCons (tSl (rSlL K) (tVar 0) tNoPart (tPart (tC (.int 63)))) tNil)) (gTup K 2 (gCons (gName 4) (gCons (gName 5) gNil))) (tAsg (tOp (rI (fun _ j => 0 < j) fun i j => .int (i % j)) (tCB (fun xs H Q => (∃ i, xs = [.int i] ∧ Q (.int i) H) ∨ ∃ k, xs = [.bl k] ∧ Q (.int (if k then 1 else 0)) H) (tCons (tOp (rI0 fun i j => .int (i + j)) (tOp (rI0 fun i j => .int (i + j)) (tOp (rI CMul fun i j => .int (i * j)) (tVar 3) (tC (.int 40014))) (tOp (rI (fun _ j => 0 < j) fun i j => .int (i % j)) (tCB (fun xs H Q => (∃ i, xs = [.int i] ∧ Q (.int i) H) ∨ ∃ k, xs = [.bl k] ∧ Q (.int (if k then 1 else 0)) H) (tCons (tVar 5) tNil)) (tC (.int 2147483543)))) (tOp (rI CMul fun i j => .int (i * j)) (tC (.int 101)) (tVar 4))) tNil)) (tC (.int 2147483563))) (gName 3)) { nx := fun σ H1 => tRet (tLst (tCons (tIf (tTest (tOp (rI0 fun i j => .bl (decide (j ≤ i))) (tVar 2) (tOp (rI CPow fun i j => .int (i ^ j.toNat)) (tC (.int 10)) (tC (.int 18))))) (tVar 2) (tC (.int 0))) (tCons (tVar 3) (tCons (tC (.int 0)) tNil)))) { nx := fun _ H' => Q .non H', rt := Q } σ H1, rt := Q } σ H1, rt := Q } [some (.ref l), some (.int at'), some (.int c), none, none, none] H := by
    intro c
    refine ⟨_, rfl, _, _, rfl, rfl, .inl ⟨by decide, by decide⟩, _, _, rfl, rfl, ?_⟩
    refine ⟨_, rfl, 63, rfl, l, _, rfl, hl, fun p hp => ⟨p, _, rfl, SqL.of upd_same, ?_⟩⟩
    refine ⟨fun i m σ H2 => ∃ mix v4 v5, σ = [some (.ref l), some (.int at'), some (.int c), some (.int mix), v4, v5] ∧ m + i = (cutV (ns.map V.int) none (some 63)).length ∧ Same (upd H p (.lst (cutV (ns.map V.int) none (some 63)))) H2, ⟨_, _, none, none, rfl, Nat.add_zero _, Same.refl _⟩, ?_⟩
    rintro i m σ H2 ⟨mix, v4, v5, rfl, hm, sm⟩
    have hp2 : H2 p = some (.lst (cutV (ns.map V.int) none (some 63))) := sm _ _ upd_same
    have sm0 : Same H H2 := Same.trans (fun b o e => by rw [upd_ne (ne_of_none e hp)]; exact e) sm
    by_cases hi : i < (cutV (ns.map V.int) none (some 63)).length
    · refine .inr ⟨⟨_, _, SqL.of hp2, List.getElem?_eq_getElem hi⟩, fun σ' H' => ∃ mix v4 v5, σ' = [some (.ref l), some (.int at'), some (.int c), some (.int mix), v4, v5] ∧ Same (upd H p (.lst (cutV (ns.map V.int) none (some 63)))) H', fun σ' H' h => ?_, ?_⟩
      · obtain ⟨mix', v4', v5', rfl, sm'⟩ := h
        exact ⟨m - 1, by omega, mix', v4', v5', rfl, by omega, sm'⟩
      · rintro x H' ⟨T', y, rfl, hT, rfl, hy⟩
        have hy1 := hy _ (SqL.of hp2)
        have hmem : y ∈ ns.map V.int := by
          have h1 := List.mem_of_getElem? hy1
          unfold cutV at h1
          exact List.mem_of_mem_drop (List.mem_of_mem_take h1)
        obtain ⟨n, _, rfl⟩ := List.mem_map.mp hmem
        refine ⟨T', _, rfl, SqT.of upd_same, rfl, ?_⟩
        refine ⟨_, _, rfl, _, _, rfl, rfl, ?_⟩
        refine ⟨_, rfl, _, _, rfl, rfl, .inr ⟨by decide, by decide⟩, _, rfl, .inl ⟨_, rfl, _, _, rfl, rfl, (by decide : (0 : Int) < 2147483543), _, _, rfl, rfl, _, rfl, _, _, rfl, rfl, .inl ⟨by decide, by decide⟩, _, _, rfl, rfl, .inl ⟨_, rfl, _, _, rfl, rfl, (by decide : (0 : Int) < 2147483563), ?_⟩⟩⟩
        exact ⟨_, _, _, rfl, sm.trans fun b o e => by rw [upd_ne (ne_of_none e hT)]; exact e⟩
    · exact .inl ⟨⟨_, SqL.of hp2, by omega⟩, fin c mix v4 v5 H2 sm0⟩
  dsimp only
  split
  · rename_i hlt
    have hlt' : at' < (ns.length : Nat) := by
      have := of_decide_eq_true hlt
      simpa using this
    obtain ⟨j, rfl⟩ := Int.eq_ofNat_of_zero_le ha0
    have hj : j < ns.length := by omega
    refine ⟨_, rfl, _, rfl, l, _, _, .int ns[j], rfl, rfl, hl, atI_nat (by rw [List.getElem?_map, List.getElem?_eq_getElem hj]; rfl), ns[j], rfl, ?_⟩
    exact loop _
  · exact loop _

def lb_law_0 : MS := (sseq (sasg (kOp addIL (kOp addIL (kOp mulI (kOp itemD (mvar 6) (kC (.int 0))) (kOp itemD (mvar 4) (kC (.int 0)))) (kOp mulI (kOp itemD (mvar 6) (kC (.int 1))) (kOp itemD (mvar 4) (kC (.int 1))))) (kOp mulI (kOp itemD (mvar 6) (kC (.int 2))) (kOp itemD (mvar 4) (kC (.int 2))))) (gnm 14)) (sseq (sasg (kMk 7 m_Force___init__ [] (aCons (kOp itemD (mvar 4) (kC (.int 1))) (aCons (kOp itemD (mvar 4) (kC (.int 2))) (aCons (kOp itemD (mvar 4) (kC (.int 0))) aNil)))) (gnm 15)) (sseq (zIf (kNot (kB (kCall m__law_number_is (aCons (kMeth 6 "measure" m_Motion_measure [] (mvar 12) (aCons (mvar 15) aNil)) (aCons (mvar 14) aNil))))) (zRet (kC (.bl false))) zNx) (sseq (sasg (kMeth 6 "measure_of" m_Motion_measure_of [] (mvar 12) (aCons (kMk 8 m_Thrust___init__ [] (aCons (mvar 15) (aCons (mvar 11) aNil))) aNil)) (gnm 16)) (sseq (zIf (kOr (kNot (kB (kCall (isiA ans) (aCons (mvar 16) (aCons (kC (.ty "tuple")) aNil))))) (kOr (kB (kOp neA (mvar 16) (kCall m__law_ratio (aCons (mvar 14) (aCons (mvar 11) aNil))))) (kB (kCall (isiA ans) (aCons (kOp itemD (mvar 16) (kC (.int 0))) (aCons (kC (.ty "bool")) aNil)))))) (zRet (kC (.bl false))) zNx) (zIf (kOr (kB (kOp neA (kMeth 6 "measure" m_Motion_measure [] (kOp (ownX 6 m_Motion___add__) (mvar 12) (mvar 13)) (aCons (mvar 15) aNil)) (kOp addIL (mvar 14) (kMeth 6 "measure" m_Motion_measure [] (mvar 13) (aCons (mvar 15) aNil))))) (kB (kOp neA (kMeth 6 "measure_of" m_Motion_measure_of [] (mvar 12) (aCons (kMk 8 m_Thrust___init__ [.int 1] (aCons (mvar 15) aNil)) aNil)) (kCall tupD (aCons (mvar 14) (aCons (kC (.int 1)) aNil)))))) (zRet (kC (.bl false))) zNx))))))
def b_law_0 : MS := (sasg (kCall tupD (aCons (kCall m__law_three (aCons (mvar 1) aNil)) (aCons (kCall m__law_three (aCons (mvar 1) aNil)) (aCons (kCall m__law_three (aCons (mvar 1) aNil)) (aCons (kCall m__law_three (aCons (mvar 1) aNil)) aNil))))) (gtm 4 (gcn (gnm 6) (gcn (gnm 7) (gcn (gnm 8) (gcn (gnm 9) gnl))))))
def b_law_1 : MS := (sasg (kOp addIL (kOp mulI (kC (.int 2)) (kOp powI (kC (.int 10)) (kC (.int 6)))) (kC (.int 1))) (gnm 2))
def b_law_2 : MS := (sasg (kCall tupD (aCons (kOp subI (kCall m__law_take (aCons (mvar 1) (aCons (mvar 2) aNil))) (kOp powI (kC (.int 10)) (kC (.int 6)))) (aCons (kOp subI (kCall m__law_take (aCons (mvar 1) (aCons (mvar 2) aNil))) (kOp powI (kC (.int 10)) (kC (.int 6)))) aNil))) (gnm 3))
def b_law_3 : MS := (spar 10 11 (aCons (kCall m__law_number (aCons (mvar 1) aNil)) (aCons (kOp addIL (kC (.int 1)) (kCall m__law_take (aCons (mvar 1) (aCons (kC (.int 12)) aNil)))) aNil)))
def b_law_4 : MS := (zIf (kOr (kNot (kB (kCall m__law_signs (aCons (mvar 6) (aCons (mvar 7) (aCons (mvar 10) aNil)))))) (kOr (kNot (kB (kCall m__law_signs (aCons (mvar 7) (aCons (mvar 6) (aCons (mvar 10) aNil)))))) (kNot (kB (kCall m__law_points (aCons (mvar 6) (aCons (mvar 8) (aCons (mvar 3) (aCons (mvar 10) aNil))))))))) (zRet (kC (.bl false))) zNx)
def b_law_5 : MS := (spar 12 13 (aCons (kMk 6 m_Motion___init__ [] (aCons (kOp itemD (mvar 6) (kC (.int 0))) (aCons (kOp itemD (mvar 6) (kC (.int 1))) (aCons (kOp itemD (mvar 6) (kC (.int 2))) aNil)))) (aCons (kMk 6 m_Motion___init__ [] (aCons (kOp itemD (mvar 7) (kC (.int 0))) (aCons (kOp itemD (mvar 7) (kC (.int 1))) (aCons (kOp itemD (mvar 7) (kC (.int 2))) aNil)))) aNil)))
def b_law_6 : MS := (sfor (iT (kCall tupD (aCons (mvar 8) (aCons (mvar 9) (aCons (mvar 8) aNil))))) (gnm 4) lb_law_0)
def b_law_7 : MS := (spar 17 18 (aCons (kCall m__law_take (aCons (mvar 1) (aCons (kC (.int 3)) aNil))) (aCons (kCall m__law_of (aCons (mvar 1) (aCons (kCall lstD (aCons (kC (.bl true)) (aCons (kC (.bl false)) (aCons (kC .non) (aCons (kC (.str "2")) (aCons (kC (.str "")) (aCons (kCall lstD (aCons (kC (.int 3)) aNil)) (aCons (kCall tupD (aCons (kC (.int 1)) (aCons (kC (.int 2)) aNil))) (aCons (kMk 7 m_Force___init__ [] (aCons (kC (.int 1)) (aCons (kC (.int 2)) (aCons (kC (.int 3)) aNil)))) aNil))))))))) aNil))) aNil)))
def b_law_8 : MS := (sLset 5 (aCons (kOp itemD (mvar 6) (kC (.int 0))) (aCons (kOp itemD (mvar 6) (kC (.int 1))) (aCons (kOp itemD (mvar 6) (kC (.int 2))) aNil))) (mvar 17) (mvar 18))
def b_law_9 : MS := (zRet (kAndV (kCall m__law_refused (aCons (mvar 5) aNil)) (kAndV (kCall m__law_refused (aCons (kCall lstD (aCons (mvar 18) (aCons (mvar 18) (aCons (mvar 18) aNil)))) aNil)) (kCall m__law_is (aCons (kMk 6 m_Motion___init__ [] (aCons (kOp itemD (mvar 7) (kC (.int 0))) (aCons (kOp itemD (mvar 7) (kC (.int 1))) (aCons (kOp itemD (mvar 7) (kC (.int 2))) aNil)))) (aCons (mvar 7) aNil))))))
def b_law : MS := (sseq b_law_0 (sseq b_law_1 (sseq b_law_2 (sseq b_law_3 (sseq b_law_4 (sseq b_law_5 (sseq b_law_6 (sseq b_law_7 (sseq b_law_8 b_law_9)))))))))
def ρ0 : Tw.Loc := [none, some .bag, none, none, none, none, none, none, none, none, none, none, none, none, none, none, none, none, none]
def spLaw (K : PySem.W.Frag) : Sp := fun vs H Q _ => ∃ (l : Addr) (ns : List Int), vs = [.ref l] ∧ SqL K H l (ns.map V.int) ∧ ns.length ≤ 63 ∧ ∀ H', Q (.bl true) H'
theorem ok_law (good : ∀ s, ∃ s', b_law ρ0 s = .ret (.bl true) s') (T : Txt K mg a) : FnOk P w K mg base (L2.CX P w) 7 a.f_law a.d_law ["_law_script"] (spLaw K) := by
  refine T.t_law.ok sc_law (fun vs H Q E h => by obtain ⟨_, _, rfl, _⟩ := h; rfl) fun cdv A outer s H vs Q E hr h => ?_
  obtain ⟨l, ns, rfl, hl, h63, k⟩ := h
  have tk0 := takes_of (X := (cxOf (L2.CX P w) P w K mg base ["_law_script", "_law_bag_here", "_law_great", "_law_point", "_law_numbers", "_law_wrong", "_law_a", "_law_b", "_law_f", "_law_g", "_law_times", "_law_parts", "_law_one", "_law_other", "_law_due", "_law_force", "_law_told", "_law_place", "_law_odd"] "law" (defScope s_law) a.f_law cdv A outer s H E)) (E := E) rfl rfl rfl rfl
  have po0 : PassesOwn (model P w) (cxOf (L2.CX P w) P w K mg base ["_law_script", "_law_bag_here", "_law_great", "_law_point", "_law_numbers", "_law_wrong", "_law_a", "_law_b", "_law_f", "_law_g", "_law_times", "_law_parts", "_law_one", "_law_other", "_law_due", "_law_force", "_law_told", "_law_place", "_law_odd"] "law" (defScope s_law) a.f_law cdv A outer s H E).A (cxOf (L2.CX P w) P w K mg base ["_law_script", "_law_bag_here", "_law_great", "_law_point", "_law_numbers", "_law_wrong", "_law_a", "_law_b", "_law_f", "_law_g", "_law_times", "_law_parts", "_law_one", "_law_other", "_law_due", "_law_force", "_law_told", "_law_place", "_law_odd"] "law" (defScope s_law) a.f_law cdv A outer s H E).env (cxOf (L2.CX P w) P w K mg base ["_law_script", "_law_bag_here", "_law_great", "_law_point", "_law_numbers", "_law_wrong", "_law_a", "_law_b", "_law_f", "_law_g", "_law_times", "_law_parts", "_law_one", "_law_other", "_law_due", "_law_force", "_law_told", "_law_place", "_law_odd"] "law" (defScope s_law) a.f_law cdv A outer s H E).xe := passes_of rfl
  have rest : ∃ t, DSs (gt a) (cxOf (L2.CX P w) P w K mg base ["_law_script", "_law_bag_here", "_law_great", "_law_point", "_law_numbers", "_law_wrong", "_law_a", "_law_b", "_law_f", "_law_g", "_law_times", "_law_parts", "_law_one", "_law_other", "_law_due", "_law_force", "_law_told", "_law_place", "_law_odd"] "law" (defScope s_law) a.f_law cdv A outer s H E) (fun c d _ H' => E c d H') ((defBody s_law).drop 1) t b_law := ⟨_, (dss_cons (ds_asg (vs := [6, 7, 8, 9]) (x_tup (a_cons (x_call (ok__law_three T) (hr.mono (by decide)) tk0 T.m__law_three T.t__law_three.kp T.b__law_three (a_cons (de_var 1) a_nil) (l_cons l_nil)) (a_cons (x_call (ok__law_three T) (hr.mono (by decide)) tk0 T.m__law_three T.t__law_three.kp T.b__law_three (a_cons (de_var 1) a_nil) (l_cons l_nil)) (a_cons (x_call (ok__law_three T) (hr.mono (by decide)) tk0 T.m__law_three T.t__law_three.kp T.b__law_three (a_cons (de_var 1) a_nil) (l_cons l_nil)) (a_cons (x_call (ok__law_three T) (hr.mono (by decide)) tk0 T.m__law_three T.t__law_three.kp T.b__law_three (a_cons (de_var 1) a_nil) (l_cons l_nil)) a_nil))))) (g_tup rfl rfl (g_cons (dg_name (i := 6) (by decide) sc_law.nd) (g_cons (dg_name (i := 7) (by decide) sc_law.nd) (g_cons (dg_name (i := 8) (by decide) sc_law.nd) (g_cons (dg_name (i := 9) (by decide) sc_law.nd) g_nil)))))) (dss_cons (ds_set (i := 2) sc_law.nd (x_op (op_add.or op_cat) prim_addIL (x_op op_mulX prim_mul x_int (x_op op_pow prim_pow x_int x_int)) x_int)) (dss_cons (ds_set (i := 3) sc_law.nd (x_tup (a_cons (x_op op_sub prim_sub (x_call (ok__law_take T) (hr.mono (by decide)) tk0 T.m__law_take T.t__law_take.kp T.b__law_take (a_cons (de_var 1) (a_cons (de_var 2) a_nil)) (l_cons (l_cons l_nil))) (x_op op_pow prim_pow x_int x_int)) (a_cons (x_op op_sub prim_sub (x_call (ok__law_take T) (hr.mono (by decide)) tk0 T.m__law_take T.t__law_take.kp T.b__law_take (a_cons (de_var 1) (a_cons (de_var 2) a_nil)) (l_cons (l_cons l_nil))) (x_op op_pow prim_pow x_int x_int)) a_nil)))) (dss_cons (ds_par (i := 10) (j := 11) rfl sc_law.nd rfl rfl (by decide) rfl rfl (a_cons (x_call (ok__law_number T) (hr.mono (by decide)) tk0 T.m__law_number T.t__law_number.kp T.b__law_number (a_cons (de_var 1) a_nil) (l_cons l_nil)) (a_cons (x_op (op_add.or op_cat) prim_addIL x_int (x_call (ok__law_take T) (hr.mono (by decide)) tk0 T.m__law_take T.t__law_take.kp T.b__law_take (a_cons (de_var 1) (a_cons x_int a_nil)) (l_cons (l_cons l_nil)))) a_nil))) (dss_cons (z_if (dt_w (w_or (q_not (q_val (x_call (ok__law_signs T) (hr.mono (by decide)) tk0 T.m__law_signs T.t__law_signs.kp T.b__law_signs (a_cons (de_var 6) (a_cons (de_var 7) (a_cons (de_var 10) a_nil))) (l_cons (l_cons (l_cons l_nil)))))) (w_or (q_not (q_val (x_call (ok__law_signs T) (hr.mono (by decide)) tk0 T.m__law_signs T.t__law_signs.kp T.b__law_signs (a_cons (de_var 7) (a_cons (de_var 6) (a_cons (de_var 10) a_nil))) (l_cons (l_cons (l_cons l_nil)))))) (w_or1 (q_not (q_val (x_call (ok__law_points T) (hr.mono (by decide)) tk0 T.m__law_points T.t__law_points.kp T.b__law_points (a_cons (de_var 6) (a_cons (de_var 8) (a_cons (de_var 3) (a_cons (de_var 10) a_nil)))) (l_cons (l_cons (l_cons (l_cons l_nil))))))))))) (dss_one (z_ret x_bl)) z_nil) (dss_cons (ds_par (i := 12) (j := 13) rfl sc_law.nd rfl rfl (by decide) rfl rfl (a_cons (x_mk T.mk_Motion (ok_Motion___init__ T) (hr.mono (by decide)) tk0 .nil (fun _ _ => rfl) (a_cons (x_ix rfl (de_var 6) x_int) (a_cons (x_ix rfl (de_var 6) x_int) (a_cons (x_ix rfl (de_var 6) x_int) a_nil))) (l_cons (l_cons (l_cons l_nil))) (by decide)) (a_cons (x_mk T.mk_Motion (ok_Motion___init__ T) (hr.mono (by decide)) tk0 .nil (fun _ _ => rfl) (a_cons (x_ix rfl (de_var 7) x_int) (a_cons (x_ix rfl (de_var 7) x_int) (a_cons (x_ix rfl (de_var 7) x_int) a_nil))) (l_cons (l_cons (l_cons l_nil))) (by decide)) a_nil))) (dss_cons (ds_for (vs := [4]) po0 rfl (i_tup rfl (x_tup (a_cons (de_var 8) (a_cons (de_var 9) (a_cons (de_var 8) a_nil))))) (dg_name (i := 4) (by decide) sc_law.nd) (dss_cons (ds_set (i := 14) sc_law.nd (x_op (op_add.or op_cat) prim_addIL (x_op (op_add.or op_cat) prim_addIL (x_op op_mulX prim_mul (x_ix rfl (de_var 6) x_int) (x_ix rfl (de_var 4) x_int)) (x_op op_mulX prim_mul (x_ix rfl (de_var 6) x_int) (x_ix rfl (de_var 4) x_int))) (x_op op_mulX prim_mul (x_ix rfl (de_var 6) x_int) (x_ix rfl (de_var 4) x_int)))) (dss_cons (ds_set (i := 15) sc_law.nd (x_mk T.mk_Force (ok_Force___init__ T) (hr.mono (by decide)) tk0 .nil (fun _ _ => rfl) (a_cons (x_ix rfl (de_var 4) x_int) (a_cons (x_ix rfl (de_var 4) x_int) (a_cons (x_ix rfl (de_var 4) x_int) a_nil))) (l_cons (l_cons (l_cons l_nil))) (by decide))) (dss_cons (z_if (q_not (q_val (x_call (ok__law_number_is T) (hr.mono (by decide)) tk0 T.m__law_number_is T.t__law_number_is.kp T.b__law_number_is (a_cons (x_meth T.mt_Motion_measure (ok_Motion_measure T) (hr.mono (by decide)) tk0 .nil (fun _ _ => rfl) (de_var 12) (a_cons (de_var 15) a_nil) (l_cons l_nil) (by decide)) (a_cons (de_var 14) a_nil)) (l_cons (l_cons l_nil))))) (dss_one (z_ret x_bl)) z_nil) (dss_cons (ds_set (i := 16) sc_law.nd (x_meth T.mt_Motion_measure_of (ok_Motion_measure_of T) (hr.mono (by decide)) tk0 .nil (fun _ _ => rfl) (de_var 12) (a_cons (x_mk T.mk_Thrust (ok_Thrust___init__ T) (hr.mono (by decide)) tk0 .nil (fun _ _ => rfl) (a_cons (de_var 15) (a_cons (de_var 11) a_nil)) (l_cons (l_cons l_nil)) (by decide)) a_nil) (l_cons l_nil) (by decide))) (dss_cons (z_if (dt_w (w_or (q_not (q_val (x_callB (cr_isi rfl) (prim_isiA (isa T)) T.n_isinstance (by decide +kernel) (a_cons (de_var 16) (a_cons (x_ty (n := "tuple") T.n_tuple (by decide +kernel)) a_nil))))) (w_or (q_cmp (op_neA rfl hr.units) prim_ne (de_var 16) (x_call (ok__law_ratio T) (hr.mono (by decide)) tk0 T.m__law_ratio T.t__law_ratio.kp T.b__law_ratio (a_cons (de_var 14) (a_cons (de_var 11) a_nil)) (l_cons (l_cons l_nil)))) (w_or1 (q_val (x_callB (cr_isi rfl) (prim_isiA (isa T)) T.n_isinstance (by decide +kernel) (a_cons (x_ix rfl (de_var 16) x_int) (a_cons (x_ty (n := "bool") T.n_bool (by decide +kernel)) a_nil)))))))) (dss_one (z_ret x_bl)) z_nil) (dss_one (z_if (dt_w (w_or (q_cmp (op_neA rfl hr.units) prim_ne (x_meth T.mt_Motion_measure (ok_Motion_measure T) (hr.mono (by decide)) tk0 .nil (fun _ _ => rfl) (x_own T.op_Motion___add__ (ok_Motion___add__ T) (hr.mono (by decide)) tk0 (de_var 12) (de_var 13)) (a_cons (de_var 15) a_nil) (l_cons l_nil) (by decide)) (x_op (op_add.or op_cat) prim_addIL (de_var 14) (x_meth T.mt_Motion_measure (ok_Motion_measure T) (hr.mono (by decide)) tk0 .nil (fun _ _ => rfl) (de_var 13) (a_cons (de_var 15) a_nil) (l_cons l_nil) (by decide)))) (w_or1 (q_cmp (op_neA rfl hr.units) prim_ne (x_meth T.mt_Motion_measure_of (ok_Motion_measure_of T) (hr.mono (by decide)) tk0 .nil (fun _ _ => rfl) (de_var 12) (a_cons (x_mk T.mk1_Thrust (ok_Thrust___init__ T) (hr.mono (by decide)) tk0 (T.bd1_Thrust___init__).choose_spec.1 (fun _ _ => ⟨_, _, rfl, rfl, rfl⟩) (a_cons (de_var 15) a_nil) (l_cons l_nil) (by decide)) a_nil) (l_cons l_nil) (by decide)) (x_tup (a_cons (de_var 14) (a_cons x_int a_nil))))))) (dss_one (z_ret x_bl)) z_nil)))))))) (dss_cons (ds_par (i := 17) (j := 18) rfl sc_law.nd rfl rfl (by decide) rfl rfl (a_cons (x_call (ok__law_take T) (hr.mono (by decide)) tk0 T.m__law_take T.t__law_take.kp T.b__law_take (a_cons (de_var 1) (a_cons x_int a_nil)) (l_cons (l_cons l_nil))) (a_cons (x_call (ok__law_of T) (hr.mono (by decide)) tk0 T.m__law_of T.t__law_of.kp T.b__law_of (a_cons (de_var 1) (a_cons (x_lst (a_cons x_bl (a_cons x_bl (a_cons x_non (a_cons x_str (a_cons x_str (a_cons (x_lst (a_cons x_int a_nil)) (a_cons (x_tup (a_cons x_int (a_cons x_int a_nil))) (a_cons (x_mk T.mk_Force (ok_Force___init__ T) (hr.mono (by decide)) tk0 .nil (fun _ _ => rfl) (a_cons x_int (a_cons x_int (a_cons x_int a_nil))) (l_cons (l_cons (l_cons l_nil))) (by decide)) a_nil))))))))) a_nil)) (l_cons (l_cons l_nil))) a_nil))) (dss_lset (n := 5) sc_law.nd rfl (ds_set (i := 5) sc_law.nd (x_lst (a_cons (x_ix rfl (de_var 6) x_int) (a_cons (x_ix rfl (de_var 6) x_int) (a_cons (x_ix rfl (de_var 6) x_int) a_nil))))) (a_cons (x_ix rfl (de_var 6) x_int) (a_cons (x_ix rfl (de_var 6) x_int) (a_cons (x_ix rfl (de_var 6) x_int) a_nil))) (de_var (G := gt a) (W := W0) 5).pe (de_var 17) (de_var 18) (dss_one (z_ret (x_and (x_call (ok__law_refused T) (hr.mono (by decide)) tk0 T.m__law_refused T.t__law_refused.kp T.b__law_refused (a_cons (de_var 5) a_nil) (l_cons l_nil)) (x_and (x_call (ok__law_refused T) (hr.mono (by decide)) tk0 T.m__law_refused T.t__law_refused.kp T.b__law_refused (a_cons (x_lst (a_cons (de_var 18) (a_cons (de_var 18) (a_cons (de_var 18) a_nil)))) a_nil) (l_cons l_nil)) (de_one (x_call (ok__law_is T) (hr.mono (by decide)) tk0 T.m__law_is T.t__law_is.kp T.b__law_is (a_cons (x_mk T.mk_Motion (ok_Motion___init__ T) (hr.mono (by decide)) tk0 .nil (fun _ _ => rfl) (a_cons (x_ix rfl (de_var 7) x_int) (a_cons (x_ix rfl (de_var 7) x_int) (a_cons (x_ix rfl (de_var 7) x_int) a_nil))) (l_cons (l_cons (l_cons l_nil))) (by decide)) (a_cons (de_var 7) a_nil)) (l_cons (l_cons l_nil)))))))))))))))))⟩
  obtain ⟨t, dt⟩ := rest
  refine ⟨_, pss_cons (ps_set (i := 1) sc_law.nd rfl (.inl rfl) (pe_callS (ok__law_bag T) (hr.mono (by decide)) (by rfl) T.m__law_bag T.t__law_bag.kp T.b__law_bag (fun σ => passAt tk0 σ) (pa_cons (pv 0) (pa_cons pe_int pa_nil)))) dt.ps, ?_⟩
  refine ⟨_, rfl, l, ns, 0, rfl, hl, h63, by decide, by decide, fun x m H' p sm hp h1 => ?_⟩
  obtain ⟨s', e'⟩ := good (bag0 x m)
  refine dt.run ⟨some (p, true), none, fun z => z = p, fun z _ e => by cases e; rfl, (fun _ _ _ e => nomatch e)⟩ _ H' ρ0 (bag0 x m) _ ⟨rfl, fun i d q => ?_⟩ ⟨fun b kd eb => ?_, (fun _ _ _ e => nomatch e), fun b hb => ⟨.lst [.int x, .int m, .int 0], by rw [show b = p from hb]; exact h1⟩⟩ ?_
  · match i, q with
    | 1, q => cases q; exact ⟨.ref p, rfl, p, rfl, rfl⟩
    | 0, q => cases q
    | 2, q => cases q
    | 3, q => cases q
    | 4, q => cases q
    | 5, q => cases q
    | 6, q => cases q
    | 7, q => cases q
    | 8, q => cases q
    | 9, q => cases q
    | 10, q => cases q
    | 11, q => cases q
    | 12, q => cases q
    | 13, q => cases q
    | 14, q => cases q
    | 15, q => cases q
    | 16, q => cases q
    | 17, q => cases q
    | 18, q => cases q
    | n + 19, q => cases q
  · cases eb; exact .inl ⟨rfl, h1⟩
  · rw [e']
    intro v H2 _ _ rd
    obtain rfl : v = .bl true := rd
    exact k H2

end
end K11

set_option Elab.async false
set_option linter.all false
set_option maxRecDepth 100000
set_option maxHeartbeats 4000000
set_option autoImplicit false
namespace K11
open PySem L2 Tw
local macro_rules | `(tactic| walk_at "sm") => `(tactic| first | assumption | exact Sm.lit200 (by decide) | (refine Sm.mul ?_ ?_ <;> walk_at "sm") | (refine Sm.add2 ?_ ?_ <;> walk_at "sm") | (refine Sm.sub2 ?_ ?_ <;> walk_at "sm") | (refine Sm.neg ?_; walk_at "sm"))
local macro_rules | `(tactic| walk_at "mo") => `(tactic| (refine mulOk_any (n := ?nn) (m := ?mm) ?_ ?_ ?_ <;> first | walk_at "sm" | decide))
local macro_rules | `(tactic| walk_at "ds") => `(tactic| first | assumption | walk_at "mo" | decide | omega)
local macro_rules | `(tactic| walk_at "tw") => `(tactic| simp (disch := walk_at "ds") only [mdef, startL, sseq, zNx, zIf, zRet, zRetN, zEx, zBk, zCt, zRaise, zRaiseN, sasg, spar, spar3, sof_ret, sof_ok, mret_ap, mbind_ap, obind_ok, mbind_ret, mbind_bad, kC, kOp, kUn, kB, kAnd, kOr, kNot, kAndV, kOrV, kNotV, kIf, kCh, aNil, aCons, kCall, kMk, kMkV, kCmS, kMeth, kProp, kFld, iL, iT, iR1, iR2, mvar, gnm, gtm, glm, gem, gcn, gnl, asB, asL, asT, int2, int2c, addIL, addI, subI, mul_eq, fdv_eq, fdv_64, fmd_eq, ne_eq, not_false_eq_true, Int.reduceEq, Nat.reduceLeDiff, Int.reduceAdd, Int.reduceNeg, Int.reduceLT, Int.reduceLE, Int.reduceSub, Nat.reduceEqDiff, p9, p15, p18, p20, p30, p6, negI, ltI, leI, gtI, geI, eqA_int, eqA_bl, neA_int, neA_bl, isBo, notBo, isNo, notNo, tupD, lstD, itemD, gcdD, gcd4D, intD, absD, lenD, listD, tupleD, penGet, penPut, Pen.get, Pen.put, bagGet, bagPut, Pen.bget, Pen.bput, objPut,
  isI_ins, at0, at1, at2, isiA_int, isiA_bl, isiA_non, isiA_str, isiA_tup, isiA_lst, ii_int, ii_bool, ib_int, ib_bool, in_int, is_int, it_int, il_int, it_tuple, nox_ret, nox_ok,
  List.map_cons, List.map_nil, List.length_cons, List.length_nil, List.cons_append, List.nil_append, List.append_nil, List.getElem?_cons_zero, List.getElem?_cons_succ, List.set_cons_zero, List.set_cons_succ, List.replicate_succ, List.replicate_zero, Nat.reduceSub, Nat.reduceAdd, if_true, if_false, decide_eq_true_eq, Bool.not_eq_true', Bool.true_eq_false, Bool.false_eq_true, reduceIte, decide_true, decide_false, Bool.not_true, Bool.not_false, ite_true, ite_false, List.length_map, beq_self_eq_true, Bool.and_self, Bool.true_and, Bool.and_true, Bool.and_false, Bool.false_and, *])
theorem take_ok (s : Pen) (many : Int) (h : 0 < many) (h9 : many.natAbs.log2 < 9000) : ∃ d s', m__law_take [.bag, .int many] s = .ok (.int d) s' ∧ 0 ≤ d ∧ d < many ∧ s'.obj = s.obj ∧ s'.ocls = s.ocls := Bag.take_ok s many h h9
theorem of_ok (s : Pen) (xs : List D) (h : 0 < xs.length) (hl : xs.length ≤ 1000) : ∃ d s', m__law_of [.bag, .lst xs] s = .ok d s' ∧ d ∈ xs ∧ s'.obj = s.obj ∧ s'.ocls = s.ocls := Bag.of_ok s xs h hl
abbrev mo (a b c : Int) : D := .ins 6 ["turn", "across", "up"] [.int a, .int b, .int c]
abbrev fo (a b c : Int) : D := .ins 7 ["across", "up", "moment"] [.int a, .int b, .int c]
abbrev th (a b c p : Int) : D := .ins 8 ["force", "parts"] [fo a b c, .int p]
theorem isnum_int (i : Int) : m_is_number [.int i] = mret (.bl true) := by
  funext s
  refine mdef_ret ?_
  unfold b_is_number
  walk_at "tw"
theorem mk_mo (a b c : Int) : mkD 6 m_Motion___init__ [.int a, .int b, .int c] = mret (mo a b c) := by
  funext s
  have n1 := isnum_int a
  have n2 := isnum_int b
  have n3 := isnum_int c
  have e : m_Motion___init__ [.self, .int a, .int b, .int c] { s with obj := [], ocls := 6 } = .ok .non { s with obj := [("turn", .int a), ("across", .int b), ("up", .int c)], ocls := 6 } := by
    unfold m_Motion___init__ b_Motion___init__ b_Motion___init___0 b_Motion___init___1 b_Motion___init___2 b_Motion___init___3
    walk_at "tw"
    rfl
  exact mkD_of rfl e
theorem mk_fo (a b c : Int) : mkD 7 m_Force___init__ [.int a, .int b, .int c] = mret (fo a b c) := by
  funext s
  have n1 := isnum_int a
  have n2 := isnum_int b
  have n3 := isnum_int c
  have e : m_Force___init__ [.self, .int a, .int b, .int c] { s with obj := [], ocls := 7 } = .ok .non { s with obj := [("across", .int a), ("up", .int b), ("moment", .int c)], ocls := 7 } := by
    unfold m_Force___init__ b_Force___init__ b_Force___init___0 b_Force___init___1 b_Force___init___2 b_Force___init___3 b_Force___init___4 b_Force___init___5
    walk_at "tw"
    rfl
  exact mkD_of rfl e
theorem f_turn (a b c : Int) : fldD cf_turn "turn" (mo a b c) = mret (.int a) := rfl
theorem f_across (a b c : Int) : fldD cf_across "across" (mo a b c) = mret (.int b) := rfl
theorem f_up (a b c : Int) : fldD cf_up "up" (mo a b c) = mret (.int c) := rfl
theorem g_across (a b c : Int) : fldD cf_across "across" (fo a b c) = mret (.int a) := rfl
theorem g_up (a b c : Int) : fldD cf_up "up" (fo a b c) = mret (.int b) := rfl
theorem g_moment (a b c : Int) : fldD cf_moment "moment" (fo a b c) = mret (.int c) := rfl
theorem t_force (a b c p : Int) : fldD cf_force "force" (th a b c p) = mret (fo a b c) := rfl
theorem t_parts (a b c p : Int) : fldD cf_parts "parts" (th a b c p) = mret (.int p) := rfl
theorem is_mo (a b c : Int) : isiA ans [mo a b c, .cls 6] = mret (.bl true) := isiA_cls 6 rfl rfl
theorem add_mo (a b c x y z : Int) : ownX 6 m_Motion___add__ (mo a b c) (mo x y z) = mret (mo (a + x) (b + y) (c + z)) := by
  funext s
  show m_Motion___add__ [mo a b c, mo x y z] s = _
  refine mdef_ret ?_
  unfold b_Motion___add__
  have e := mk_mo (a + x) (b + y) (c + z)
  have e1 := f_turn
  have e2 := f_across
  have e3 := f_up
  walk_at "tw"
end K11

set_option Elab.async false
set_option linter.all false
set_option maxRecDepth 100000
set_option maxHeartbeats 4000000
set_option autoImplicit false
namespace K11
open PySem L2 Tw
local macro_rules | `(tactic| walk_at "sm") => `(tactic| first | assumption | exact Sm.lit200 (by decide) | (refine Sm.mul ?_ ?_ <;> walk_at "sm") | (refine Sm.add2 ?_ ?_ <;> walk_at "sm") | (refine Sm.sub2 ?_ ?_ <;> walk_at "sm") | (refine Sm.neg ?_; walk_at "sm"))
local macro_rules | `(tactic| walk_at "mo") => `(tactic| (refine mulOk_any (n := ?nn) (m := ?mm) ?_ ?_ ?_ <;> first | walk_at "sm" | decide))
local macro_rules | `(tactic| walk_at "ds") => `(tactic| first | assumption | walk_at "mo" | decide | omega)
local macro_rules | `(tactic| walk_at "tw") => `(tactic| simp (disch := walk_at "ds") only [mdef, startL, sseq, zNx, zIf, zRet, zRetN, zEx, zBk, zCt, zRaise, zRaiseN, sasg, spar, spar3, sof_ret, sof_ok, mret_ap, mbind_ap, obind_ok, mbind_ret, mbind_bad, kC, kOp, kUn, kB, kAnd, kOr, kNot, kAndV, kOrV, kNotV, kIf, kCh, aNil, aCons, kCall, kMk, kMkV, kCmS, kMeth, kProp, kFld, iL, iT, iR1, iR2, mvar, gnm, gtm, glm, gem, gcn, gnl, asB, asL, asT, int2, int2c, addIL, addI, subI, mul_eq, fdv_eq, fdv_64, fmd_eq, ne_eq, not_false_eq_true, Int.reduceEq, Nat.reduceLeDiff, Int.reduceAdd, Int.reduceNeg, Int.reduceLT, Int.reduceLE, Int.reduceSub, Nat.reduceEqDiff, p9, p15, p18, p20, p30, p6, negI, ltI, leI, gtI, geI, eqA_int, eqA_bl, neA_int, neA_bl, isBo, notBo, isNo, notNo, tupD, lstD, itemD, gcdD, gcd4D, intD, absD, lenD, listD, tupleD, penGet, penPut, Pen.get, Pen.put, bagGet, bagPut, Pen.bget, Pen.bput, objPut,
  isI_ins, at0, at1, at2, isiA_int, isiA_bl, isiA_non, isiA_str, isiA_tup, isiA_lst, ii_int, ii_bool, ib_int, ib_bool, in_int, is_int, it_int, il_int, it_tuple, nox_ret, nox_ok,
  List.map_cons, List.map_nil, List.length_cons, List.length_nil, List.cons_append, List.nil_append, List.append_nil, List.getElem?_cons_zero, List.getElem?_cons_succ, List.set_cons_zero, List.set_cons_succ, List.replicate_succ, List.replicate_zero, Nat.reduceSub, Nat.reduceAdd, if_true, if_false, decide_eq_true_eq, Bool.not_eq_true', Bool.true_eq_false, Bool.false_eq_true, reduceIte, decide_true, decide_false, Bool.not_true, Bool.not_false, ite_true, ite_false, List.length_map, beq_self_eq_true, Bool.and_self, Bool.true_and, Bool.and_true, Bool.and_false, Bool.false_and, mk_mo, mk_fo, f_turn, f_across, f_up, g_across, g_up, g_moment, t_force, t_parts, is_mo, *])
theorem sub_mo (a b c x y z : Int) : ownX 6 m_Motion___sub__ (mo a b c) (mo x y z) = mret (mo (a - x) (b - y) (c - z)) := by
  funext s
  show m_Motion___sub__ [mo a b c, mo x y z] s = _
  refine mdef_ret ?_
  unfold b_Motion___sub__
  walk_at "tw"
theorem neg_mo (a b c : Int) : ownN 6 m_Motion___neg__ (mo a b c) = mret (mo (-a) (-b) (-c)) := by
  have e : m_Motion___neg__ [mo a b c] = mret (mo (-a) (-b) (-c)) := by
    funext s
    refine mdef_ret ?_
    unfold b_Motion___neg__
    walk_at "tw"
  show nox (m_Motion___neg__ [mo a b c]) = _
  rw [e]; rfl
theorem mul_mo (a b c k : Int) (ha : mulOk a k = true) (hb : mulOk b k = true) (hc : mulOk c k = true) : ownI 6 m_Motion___mul__ (mo a b c) (.int k) = mret (mo (a * k) (b * k) (c * k)) := by
  have e : m_Motion___mul__ [mo a b c, .int k] = mret (mo (a * k) (b * k) (c * k)) := by
    funext s
    refine mdef_ret ?_
    unfold b_Motion___mul__
    walk_at "tw"
  show nox (m_Motion___mul__ [mo a b c, .int k]) = _
  rw [e]; rfl
theorem eq_mo (a b c x y z : Int) : oeqB 6 nf_Motion m_Motion___eq__ (mo a b c) (mo x y z) = mret (.bl (decide (a = x ∧ b = y ∧ c = z))) := by
  have e : m_Motion___eq__ [mo a b c, mo x y z] = mret (.bl (decide (a = x ∧ b = y ∧ c = z))) := by
    funext s
    refine mdef_ret ?_
    unfold b_Motion___eq__
    by_cases h1 : a = x
    · by_cases h2 : b = y
      · walk_at "tw"
        simp
      · walk_at "tw"
        simp
    · walk_at "tw"
      simp
  show nox (m_Motion___eq__ [mo a b c, mo x y z]) = _
  rw [e]; rfl
theorem eq_tup (a b c : Int) (xs : List D) : oeqB 6 nf_Motion m_Motion___eq__ (mo a b c) (.tup xs) = mret (.bl false) := by
  have i1 : isiA ans [.tup xs, .cls 6] = mret (.bl false) := isiA_cls 6 rfl rfl
  have e : m_Motion___eq__ [mo a b c, .tup xs] = mret (.bl false) := by
    funext s
    refine mdef_ret ?_
    unfold b_Motion___eq__
    walk_at "tw"
  show nox (m_Motion___eq__ [mo a b c, .tup xs]) = _
  rw [e]; rfl
theorem eq_fo (a b c x y z : Int) : oeqB 6 nf_Motion m_Motion___eq__ (mo a b c) (fo x y z) = mret (.bl false) := by
  have i1 : isiA ans [fo x y z, .cls 6] = mret (.bl false) := isiA_cls 6 rfl rfl
  have e : m_Motion___eq__ [mo a b c, fo x y z] = mret (.bl false) := by
    funext s
    refine mdef_ret ?_
    unfold b_Motion___eq__
    walk_at "tw"
  show nox (m_Motion___eq__ [mo a b c, fo x y z]) = _
  rw [e]; rfl
theorem none_mo (a b c : Int) : m_Motion_is_none [mo a b c] = mret (.bl (decide (a = 0 ∧ b = 0 ∧ c = 0))) := by
  funext s
  refine mdef_ret ?_
  unfold b_Motion_is_none
  by_cases h1 : a = 0
  · by_cases h2 : b = 0
    · walk_at "tw"
      simp
    · walk_at "tw"
      simp
  · walk_at "tw"
    simp
theorem cm_none : m_Motion_none [.cls 6] = mret (mo 0 0 0) := by
  funext s
  refine mdef_ret ?_
  unfold b_Motion_none
  walk_at "tw"
theorem turning_t (x y t : Int) (h1 : mulOk t y = true) (h2 : mulOk (-t) x = true) : m_Motion_turning [.cls 6, .tup [.int x, .int y], .int t] = mret (mo t (t * y) (-t * x)) := by
  funext s
  refine mdef_ret ?_
  unfold b_Motion_turning b_Motion_turning_0 b_Motion_turning_1
  walk_at "tw"
theorem turning_l (x y t : Int) (h1 : mulOk t y = true) (h2 : mulOk (-t) x = true) : m_Motion_turning [.cls 6, .lst [.int x, .int y], .int t] = mret (mo t (t * y) (-t * x)) := by
  funext s
  refine mdef_ret ?_
  unfold b_Motion_turning b_Motion_turning_0 b_Motion_turning_1
  walk_at "tw"
theorem at_mo (a b c x y : Int) (h1 : mulOk a y = true) (h2 : mulOk a x = true) : m_Motion_at [mo a b c, .tup [.int x, .int y]] = mret (.tup [.int (b - a * y), .int (c + a * x)]) := by
  funext s
  refine mdef_ret ?_
  unfold b_Motion_at b_Motion_at_0 b_Motion_at_1
  walk_at "tw"
theorem measure_mo (a b c x y z : Int) (h1 : mulOk a z = true) (h2 : mulOk b x = true) (h3 : mulOk c y = true) : m_Motion_measure [mo a b c, fo x y z] = mret (.int (a * z + b * x + c * y)) := by
  funext s
  refine mdef_ret ?_
  unfold b_Motion_measure
  walk_at "tw"
theorem about_fo (a b c x y : Int) (h1 : mulOk x b = true) (h2 : mulOk y a = true) : m_Force_about [fo a b c, .tup [.int x, .int y]] = mret (.int (c - x * b + y * a)) := by
  funext s
  refine mdef_ret ?_
  unfold b_Force_about b_Force_about_0 b_Force_about_1
  walk_at "tw"
theorem acting_fo (a b x y : Int) (h1 : mulOk x b = true) (h2 : mulOk y a = true) : m_Force_acting [.cls 7, .int a, .int b, .tup [.int x, .int y]] = mret (fo a b (x * b - y * a)) := by
  funext s
  refine mdef_ret ?_
  unfold b_Force_acting b_Force_acting_0 b_Force_acting_1
  walk_at "tw"
theorem ratio_eq (a b : Int) (hb : b ≠ 0) (h9 : b.natAbs.log2 < 9000) : m_ratio [.int a, .int b] = mret (rd (Rat.divInt a b)) := Bag.prat_eq 1 a b hb h9
theorem lratio_eq (a b : Int) (hb : b ≠ 0) (h9 : b.natAbs.log2 < 9000) : m__law_ratio [.int a, .int b] = mret (rd (Rat.divInt a b)) := Bag.rat_eq a b hb h9
end K11

set_option Elab.async false
set_option linter.all false
set_option maxRecDepth 100000
set_option maxHeartbeats 4000000
set_option autoImplicit false
namespace K11
open PySem L2 Tw
local macro_rules | `(tactic| walk_at "sm") => `(tactic| first | assumption | exact Sm.lit200 (by decide) | (refine Sm.mul ?_ ?_ <;> walk_at "sm") | (refine Sm.add2 ?_ ?_ <;> walk_at "sm") | (refine Sm.sub2 ?_ ?_ <;> walk_at "sm") | (refine Sm.neg ?_; walk_at "sm"))
local macro_rules | `(tactic| walk_at "mo") => `(tactic| (refine mulOk_any (n := ?nn) (m := ?mm) ?_ ?_ ?_ <;> first | walk_at "sm" | decide))
local macro_rules | `(tactic| walk_at "ds") => `(tactic| first | assumption | walk_at "mo" | decide | omega)
local macro_rules | `(tactic| walk_at "tw") => `(tactic| simp (disch := walk_at "ds") only [mdef, startL, sseq, zNx, zIf, zRet, zRetN, zEx, zBk, zCt, zRaise, zRaiseN, sasg, spar, spar3, sof_ret, sof_ok, mret_ap, mbind_ap, obind_ok, mbind_ret, mbind_bad, kC, kOp, kUn, kB, kAnd, kOr, kNot, kAndV, kOrV, kNotV, kIf, kCh, aNil, aCons, kCall, kMk, kMkV, kCmS, kMeth, kProp, kFld, iL, iT, iR1, iR2, mvar, gnm, gtm, glm, gem, gcn, gnl, asB, asL, asT, int2, int2c, addIL, addI, subI, mul_eq, fdv_eq, fdv_64, fmd_eq, ne_eq, not_false_eq_true, Int.reduceEq, Nat.reduceLeDiff, Int.reduceAdd, Int.reduceNeg, Int.reduceLT, Int.reduceLE, Int.reduceSub, Nat.reduceEqDiff, p9, p15, p18, p20, p30, p6, negI, ltI, leI, gtI, geI, eqA_int, eqA_bl, neA_int, neA_bl, isBo, notBo, isNo, notNo, tupD, lstD, itemD, gcdD, gcd4D, intD, absD, lenD, listD, tupleD, penGet, penPut, Pen.get, Pen.put, bagGet, bagPut, Pen.bget, Pen.bput, objPut,
  isI_ins, at0, at1, at2, isiA_int, isiA_bl, isiA_non, isiA_str, isiA_tup, isiA_lst, ii_int, ii_bool, ib_int, ib_bool, in_int, is_int, it_int, il_int, it_tuple, nox_ret, nox_ok,
  List.map_cons, List.map_nil, List.length_cons, List.length_nil, List.cons_append, List.nil_append, List.append_nil, List.getElem?_cons_zero, List.getElem?_cons_succ, List.set_cons_zero, List.set_cons_succ, List.replicate_succ, List.replicate_zero, Nat.reduceSub, Nat.reduceAdd, if_true, if_false, decide_eq_true_eq, Bool.not_eq_true', Bool.true_eq_false, Bool.false_eq_true, reduceIte, decide_true, decide_false, Bool.not_true, Bool.not_false, ite_true, ite_false, List.length_map, beq_self_eq_true, Bool.and_self, Bool.true_and, Bool.and_true, Bool.and_false, Bool.false_and, mk_mo, mk_fo, f_turn, f_across, f_up, g_across, g_up, g_moment, t_force, t_parts, is_mo, isnum_int, eqT3, sloop, *])
abbrev tri (a b c : Int) : D := .tup [.int a, .int b, .int c]
theorem flag_eq (b : Bool) : m__law_flag [.bl b, .bl b] = mret (.bl true) := by
  funext s
  refine mdef_ret ?_
  unfold b__law_flag
  cases b <;> walk_at "tw"
theorem num_ok (s : Pen) : ∃ n s', m__law_number [.bag] s = .ok (.int n) s' ∧ Sm 110 n := by
  obtain ⟨w, s1, e1, h0, h1, _⟩ := take_ok s 5 (by decide) (by decide)
  by_cases w0 : w = 0
  · subst w0
    obtain ⟨d, s2, e2, d0, d1, _⟩ := take_ok s1 2001 (by decide) (by decide)
    refine ⟨d - 1000, s2, mdef_ret ?_, by unfold Sm; omega⟩
    unfold b__law_number b__law_number_0 b__law_number_1 b__law_number_2 b__law_number_3
    walk_at "tw"
  · by_cases w1 : w = 1
    · subst w1
      obtain ⟨d, s2, e2, d0, d1, _⟩ := take_ok s1 2000000000000000000000000000001 (by decide) (by decide)
      refine ⟨d - 1000000000000000000000000000000, s2, mdef_ret ?_, by unfold Sm; omega⟩
      unfold b__law_number b__law_number_0 b__law_number_1 b__law_number_2 b__law_number_3
      have hm : mulI (.int 2) (.int 1000000000000000000000000000000) = mret (.int 2000000000000000000000000000000) := rfl
      walk_at "tw"
    · obtain ⟨d, s2, e2, d0, d1, _⟩ := take_ok s1 7 (by decide) (by decide)
      refine ⟨d - 3, s2, mdef_ret ?_, by unfold Sm; omega⟩
      unfold b__law_number b__law_number_0 b__law_number_1 b__law_number_2 b__law_number_3
      walk_at "tw"
theorem three_ok (s : Pen) : ∃ a b c s', m__law_three [.bag] s = .ok (tri a b c) s' ∧ Sm 110 a ∧ Sm 110 b ∧ Sm 110 c := by
  obtain ⟨w, s1, e1, h0, h1, _⟩ := take_ok s 8 (by decide) (by decide)
  by_cases w0 : w = 0
  · subst w0
    refine ⟨0, 0, 0, s1, mdef_ret ?_, by decide, by decide, by decide⟩
    unfold b__law_three b__law_three_0 b__law_three_1
    walk_at "tw"
  · obtain ⟨a, s2, e2, ha⟩ := num_ok s1
    obtain ⟨b, s3, e3, hb⟩ := num_ok s2
    obtain ⟨c, s4, e4, hc⟩ := num_ok s3
    refine ⟨a, b, c, s4, mdef_ret ?_, ha, hb, hc⟩
    unfold b__law_three b__law_three_0 b__law_three_1
    walk_at "tw"
theorem is_eq (a b c x y z : Int) (h1 : a = x) (h2 : b = y) (h3 : c = z) : m__law_is [mo a b c, tri x y z] = mret (.bl true) := by
  subst h1 h2 h3
  funext s
  refine mdef_ret ?_
  unfold b__law_is b__law_is_0 b__law_is_1 lb__law_is_0 sfor
  walk_at "tw"
  simp
theorem numis_eq (a b : Int) (h : a = b) : m__law_number_is [.int a, .int b] = mret (.bl true) := by
  subst h
  funext s
  refine mdef_ret ?_
  unfold b__law_number_is
  walk_at "tw"
/-- no whole number -/
def Odd (d : D) : Prop := m_is_number [d] = mret (.bl false) ∧ clear d = true
theorem odd_bl (b : Bool) : Odd (.bl b) := by
  refine ⟨?_, rfl⟩
  funext s
  refine mdef_ret ?_
  unfold b_is_number
  walk_at "tw"
theorem odd_non : Odd .non := by
  refine ⟨?_, rfl⟩
  funext s
  refine mdef_ret ?_
  unfold b_is_number
  walk_at "tw"
theorem odd_str (x : Str) : Odd (.str x) := by
  refine ⟨?_, rfl⟩
  funext s
  refine mdef_ret ?_
  unfold b_is_number
  walk_at "tw"
theorem odd_lst (xs : List D) (h : clearL xs = true) : Odd (.lst xs) := by
  refine ⟨?_, h⟩
  funext s
  refine mdef_ret ?_
  unfold b_is_number
  walk_at "tw"
theorem odd_tup (xs : List D) (h : clearL xs = true) : Odd (.tup xs) := by
  refine ⟨?_, h⟩
  funext s
  refine mdef_ret ?_
  unfold b_is_number
  walk_at "tw"
theorem odd_fo (a b c : Int) : Odd (fo a b c) := by
  refine ⟨?_, rfl⟩
  funext s
  refine mdef_ret ?_
  unfold b_is_number
  have i : isiA ans [fo a b c, .ty "int"] = mret (.bl false) := isiA_ins 7 _ _ "int" rfl
  walk_at "tw"
theorem mk_bad (x y z : D) (s : Pen) (hc : clearL [x, y, z] = true) (bx by' bz : Bool) (hx : m_is_number [x] = mret (.bl bx)) (hy : m_is_number [y] = mret (.bl by')) (hz : m_is_number [z] = mret (.bl bz)) (hb : (bx && (by' && bz)) = false) : mkD 6 m_Motion___init__ [x, y, z] s = .exc 4 [] [] s := by
  have e : m_Motion___init__ [.self, x, y, z] { s with obj := [], ocls := 6 } = .exc 4 [] [] { s with obj := [], ocls := 6 } := by
    unfold m_Motion___init__ b_Motion___init__ b_Motion___init___0
    cases bx
    · walk_at "tw"
    · cases by'
      · walk_at "tw"
      · cases bz
        · walk_at "tw"
        · cases hb
  exact mkD_exc hc rfl e rfl
end K11

set_option Elab.async false
set_option linter.all false
set_option maxRecDepth 100000
set_option maxHeartbeats 4000000
set_option autoImplicit false
namespace K11
open PySem L2 Tw
local macro_rules | `(tactic| walk_at "sm") => `(tactic| first | assumption | exact Sm.lit200 (by decide) | (apply Sm.mul; walk_at "sm"; walk_at "sm") | (apply Sm.add2; walk_at "sm"; walk_at "sm") | (apply Sm.sub2; walk_at "sm"; walk_at "sm") | (apply Sm.neg; walk_at "sm"))
local macro_rules | `(tactic| walk_at "mo") => `(tactic| (apply mulOk_any; walk_at "sm"; walk_at "sm"; decide))
local macro_rules | `(tactic| walk_at "ds") => `(tactic| first | assumption | walk_at "mo" | decide | omega)
local macro_rules | `(tactic| walk_at "tw") => `(tactic| simp (disch := walk_at "ds") only [mdef, startL, sseq, zNx, zIf, zRet, zRetN, zEx, zBk, zCt, zRaise, zRaiseN, sasg, spar, spar3, sof_ret, sof_ok, mret_ap, mbind_ap, obind_ok, mbind_ret, mbind_bad, kC, kOp, kUn, kB, kAnd, kOr, kNot, kAndV, kOrV, kNotV, kIf, kCh, aNil, aCons, kCall, kMk, kMkV, kCmS, kMeth, kProp, kFld, iL, iT, iR1, iR2, mvar, gnm, gtm, glm, gem, gcn, gnl, asB, asL, asT, int2, int2c, addIL, addI, subI, mul_eq, fdv_eq, fdv_64, fmd_eq, ne_eq, not_false_eq_true, Int.reduceEq, Nat.reduceLeDiff, Int.reduceAdd, Int.reduceNeg, Int.reduceLT, Int.reduceLE, Int.reduceSub, Nat.reduceEqDiff, p9, p15, p18, p20, p30, p6, negI, ltI, leI, gtI, geI, eqA_int, eqA_bl, neA_int, neA_bl, isBo, notBo, isNo, notNo, tupD, lstD, itemD, gcdD, gcd4D, intD, absD, lenD, listD, tupleD, penGet, penPut, Pen.get, Pen.put, bagGet, bagPut, Pen.bget, Pen.bput, objPut,
  isI_ins, at0, at1, at2, isiA_int, isiA_bl, isiA_non, isiA_str, isiA_tup, isiA_lst, ii_int, ii_bool, ib_int, ib_bool, in_int, is_int, it_int, il_int, it_tuple, nox_ret, nox_ok,
  List.map_cons, List.map_nil, List.length_cons, List.length_nil, List.cons_append, List.nil_append, List.append_nil, List.getElem?_cons_zero, List.getElem?_cons_succ, List.set_cons_zero, List.set_cons_succ, List.replicate_succ, List.replicate_zero, Nat.reduceSub, Nat.reduceAdd, if_true, if_false, decide_eq_true_eq, Bool.not_eq_true', Bool.true_eq_false, Bool.false_eq_true, reduceIte, decide_true, decide_false, Bool.not_true, Bool.not_false, ite_true, ite_false, List.length_map, and_true, true_and, and_false, false_and, and_self, or_true, true_or, or_false, false_or, not_true_eq_false, Bool.not_eq_false, Bool.not_eq_true, decide_eq_false_iff_not, Int.sub_self, beq_self_eq_true, Bool.and_self, Bool.true_and, Bool.and_true, Bool.and_false, Bool.false_and, mk_mo, mk_fo, f_turn, f_across, f_up, g_across, g_up, g_moment, t_force, t_parts, is_mo, isnum_int, eqT3, neT2, add_mo, sub_mo, neg_mo, mul_mo, eq_mo, eq_tup, eq_fo, none_mo, cm_none, turning_t, turning_l, at_mo, measure_mo, about_fo, acting_fo, flag_eq, is_eq, numis_eq, *])
theorem refused_eq (x y z : D) (hc : clearL [x, y, z] = true) (bx by' bz : Bool) (hx : m_is_number [x] = mret (.bl bx)) (hy : m_is_number [y] = mret (.bl by')) (hz : m_is_number [z] = mret (.bl bz)) (hb : (bx && (by' && bz)) = false) : m__law_refused [.lst [x, y, z]] = mret (.bl true) := by
  funext s
  have e := mk_bad x y z s hc bx by' bz hx hy hz hb
  have t : tb__law_refused_0 [some (.lst [x, y, z]), none] s = .exc 4 [] [] [some (.lst [x, y, z]), none] s := by
    clear hx hy hz
    unfold tb__law_refused_0
    walk_at "tw"
    simp only [sof, e]
  have h : hb__law_refused_1 [some (.lst [x, y, z]), some (.err 4 [] [])] s = .ret (.bl true) s := by
    clear hx hy hz e t
    have i1 : isiX ansE [.err 4 [] [], .cls 4] = mret (.bl true) := rfl
    have i2 : isiX ansE [.err 4 [] [], .ty "ValueError"] = mret (.bl true) := rfl
    have i3 : isiX ansE [.err 4 [] [], .cls 5] = mret (.bl false) := rfl
    unfold hb__law_refused_1
    walk_at "tw"
  refine mdef_ret ?_
  have h0 : b__law_refused_0 [some (.lst [x, y, z]), none] s = .ret (.bl true) s := by
    unfold b__law_refused_0 oA sTry
    rw [t]
    show backOf 1 (hb__law_refused_1 [some (.lst [x, y, z]), some (.err 4 [] [])] s) = _
    rw [h]
    rfl
  exact sseq_ret h0
theorem signs_eq (a b c x y z k : Int) (ha : Sm 110 a) (hb : Sm 110 b) (hc : Sm 110 c) (hk : Sm 110 k) : m__law_signs [tri a b c, tri x y z, .int k] = mret (.bl true) := by
  funext s
  refine mdef_ret ?_
  have n1 : ¬ c = c + 1 := by omega
  have n2 : ¬ a = a + 1 := by omega
  have n3 : ¬ b = b - 1 := by omega
  let ρ0' : Tw.Loc := [some (tri a b c), some (tri x y z), some (.int k), none, none]
  let ρ1 : Tw.Loc := [some (tri a b c), some (tri x y z), some (.int k), some (mo a b c), some (mo x y z)]
  have s0 : b__law_signs_0 ρ0' s = .nx ρ1 s := by
    simp only [ρ0', ρ1]; unfold b__law_signs_0; walk_at "tw"
  have s1 : b__law_signs_1 ρ1 s = .nx ρ1 s := by
    simp only [ρ1]; unfold b__law_signs_1; walk_at "tw"
  have s2 : b__law_signs_2 ρ1 s = .nx ρ1 s := by
    simp only [ρ1]; unfold b__law_signs_2; walk_at "tw"
  have s3 : b__law_signs_3 ρ1 s = .nx ρ1 s := by
    simp only [ρ1]; unfold b__law_signs_3; walk_at "tw"
  have s4 : b__law_signs_4 ρ1 s = .nx ρ1 s := by
    simp only [ρ1]; unfold b__law_signs_4; walk_at "tw"
  have s5 : b__law_signs_5 ρ1 s = .nx ρ1 s := by
    simp only [ρ1]; unfold b__law_signs_5; walk_at "tw"
  have s6 : b__law_signs_6 ρ1 s = .nx ρ1 s := by
    simp only [ρ1]; unfold b__law_signs_6; walk_at "tw"
  have s7 : b__law_signs_7 ρ1 s = .nx ρ1 s := by
    simp only [ρ1]; unfold b__law_signs_7; walk_at "tw"
  have s8 : b__law_signs_8 ρ1 s = .ret (.bl true) s := by
    simp only [ρ1]; unfold b__law_signs_8; walk_at "tw"
  show b__law_signs ρ0' s = _
  unfold b__law_signs
  rw [sseq_nx s0, sseq_nx s1, sseq_nx s2, sseq_nx s3, sseq_nx s4, sseq_nx s5, sseq_nx s6, sseq_nx s7, s8]
end K11

set_option Elab.async false
set_option linter.all false
set_option maxRecDepth 100000
set_option maxHeartbeats 4000000
set_option autoImplicit false
namespace K11
open PySem L2 Tw
local macro_rules | `(tactic| walk_at "sm") => `(tactic| first | assumption | exact Sm.lit200 (by decide) | (apply Sm.mul; walk_at "sm"; walk_at "sm") | (apply Sm.add2; walk_at "sm"; walk_at "sm") | (apply Sm.sub2; walk_at "sm"; walk_at "sm") | (apply Sm.neg; walk_at "sm"))
local macro_rules | `(tactic| walk_at "mo") => `(tactic| (apply mulOk_any; walk_at "sm"; walk_at "sm"; decide))
local macro_rules | `(tactic| walk_at "ds") => `(tactic| first | assumption | rfl | walk_at "mo" | decide | omega | grind)
local macro_rules | `(tactic| walk_at "tw") => `(tactic| simp (disch := walk_at "ds") only [mdef, startL, sseq, zNx, zIf, zRet, zRetN, zEx, zBk, zCt, zRaise, zRaiseN, sasg, spar, spar3, sof_ret, sof_ok, mret_ap, mbind_ap, obind_ok, mbind_ret, mbind_bad, kC, kOp, kUn, kB, kAnd, kOr, kNot, kAndV, kOrV, kNotV, kIf, kCh, aNil, aCons, kCall, kMk, kMkV, kCmS, kMeth, kProp, kFld, iL, iT, iR1, iR2, mvar, gnm, gtm, glm, gem, gcn, gnl, asB, asL, asT, int2, int2c, addIL, addI, subI, mul_eq, fdv_eq, fdv_64, fmd_eq, ne_eq, not_false_eq_true, Int.reduceEq, Nat.reduceLeDiff, Int.reduceAdd, Int.reduceNeg, Int.reduceLT, Int.reduceLE, Int.reduceSub, Nat.reduceEqDiff, p9, p15, p18, p20, p30, p6, negI, ltI, leI, gtI, geI, eqA_int, eqA_bl, neA_int, neA_bl, isBo, notBo, isNo, notNo, tupD, lstD, itemD, gcdD, gcd4D, intD, absD, lenD, listD, tupleD, penGet, penPut, Pen.get, Pen.put, bagGet, bagPut, Pen.bget, Pen.bput, objPut,
  isI_ins, at0, at1, at2, isiA_int, isiA_bl, isiA_non, isiA_str, isiA_tup, isiA_lst, ii_int, ii_bool, ib_int, ib_bool, in_int, is_int, it_int, il_int, it_tuple, nox_ret, nox_ok,
  List.map_cons, List.map_nil, List.length_cons, List.length_nil, List.cons_append, List.nil_append, List.append_nil, List.getElem?_cons_zero, List.getElem?_cons_succ, List.set_cons_zero, List.set_cons_succ, List.replicate_succ, List.replicate_zero, Nat.reduceSub, Nat.reduceAdd, if_true, if_false, decide_eq_true_eq, Bool.not_eq_true', Bool.true_eq_false, Bool.false_eq_true, reduceIte, decide_true, decide_false, Bool.not_true, Bool.not_false, ite_true, ite_false, List.length_map, and_true, true_and, and_false, false_and, and_self, or_true, true_or, or_false, false_or, not_true_eq_false, Bool.not_eq_false, Bool.not_eq_true, decide_eq_false_iff_not, Int.sub_self, beq_self_eq_true, Bool.and_self, Bool.true_and, Bool.and_true, Bool.and_false, Bool.false_and, mk_mo, mk_fo, f_turn, f_across, f_up, g_across, g_up, g_moment, t_force, t_parts, is_mo, isnum_int, eqT3, neT2, add_mo, sub_mo, neg_mo, mul_mo, eq_mo, eq_tup, eq_fo, none_mo, cm_none, turning_t, turning_l, at_mo, measure_mo, about_fo, acting_fo, flag_eq, is_eq, numis_eq, *])
theorem points_eq (a b c f g h x y k : Int) (ha : Sm 110 a) (hb : Sm 110 b) (hc : Sm 110 c) (hf : Sm 110 f) (hg : Sm 110 g) (hh : Sm 110 h) (hk : Sm 110 k) (hx : Sm 30 x) (hy : Sm 30 y) : m__law_points [tri a b c, tri f g h, .tup [.int x, .int y], .int k] = mret (.bl true) := by
  funext s
  refine mdef_ret ?_
  let p : D := .tup [.int x, .int y]
  let ρ0' : Tw.Loc := [some (tri a b c), some (tri f g h), some p, some (.int k), none, none, none, none, none, none, none]
  let ρ1 : Tw.Loc := [some (tri a b c), some (tri f g h), some p, some (.int k), none, some (.int x), some (.int y), none, none, none, none]
  let ρ2 : Tw.Loc := [some (tri a b c), some (tri f g h), some p, some (.int k), none, some (.int x), some (.int y), some (mo a b c), some (mo 1 (1 * y) (-1 * x)), none, none]
  let ρ3 : Tw.Loc := [some (tri a b c), some (tri f g h), some p, some (.int k), none, some (.int x), some (.int y), some (mo a b c), some (mo 1 (1 * y) (-1 * x)), some (.tup [.int (b - a * y), .int (c + a * x)]), some (fo g h f)]
  let ρ4 : Tw.Loc := [some (tri a b c), some (tri f g h), some p, some (.int k), some (fo g h (x * h - y * g)), some (.int x), some (.int y), some (mo a b c), some (mo 1 (1 * y) (-1 * x)), some (.tup [.int (b - a * y), .int (c + a * x)]), some (fo g h f)]
  have s0 : b__law_points_0 ρ0' s = .nx ρ1 s := by
    simp only [ρ0', ρ1, p]; unfold b__law_points_0; walk_at "tw"
  have s1 : b__law_points_1 ρ1 s = .nx ρ2 s := by
    simp only [ρ1, ρ2, p]; unfold b__law_points_1; walk_at "tw"
  have s2 : b__law_points_2 ρ2 s = .nx ρ2 s := by
    simp only [ρ2, p]; unfold b__law_points_2; walk_at "tw"
  have s3 : b__law_points_3 ρ2 s = .nx ρ3 s := by
    simp only [ρ2, ρ3, p]; unfold b__law_points_3; walk_at "tw"
  have z1 : 1 * y - 1 * y = 0 := by omega
  have z2 : -1 * x + 1 * x = 0 := by omega
  have s4 : b__law_points_4 ρ3 s = .nx ρ3 s := by
    simp only [ρ3, p]; unfold b__law_points_4; walk_at "tw"; try rfl
  have s5 : b__law_points_5 ρ3 s = .nx ρ3 s := by
    simp only [ρ3, p]; unfold b__law_points_5; walk_at "tw"
  have z3 : 1 * f + 1 * y * g + -1 * x * h = f - x * h + y * g := by grind
  have s6 : b__law_points_6 ρ3 s = .nx ρ3 s := by
    simp only [ρ3, p]; unfold b__law_points_6; walk_at "tw"
  have s7 : b__law_points_7 ρ3 s = .nx ρ4 s := by
    simp only [ρ3, ρ4, p]; unfold b__law_points_7; walk_at "tw"
  have s8 : b__law_points_8 ρ4 s = .ret (.bl true) s := by
    simp only [ρ4, p]; unfold b__law_points_8; walk_at "tw"
  show b__law_points ρ0' s = _
  unfold b__law_points
  rw [sseq_nx s0, sseq_nx s1, sseq_nx s2, sseq_nx s3, sseq_nx s4, sseq_nx s5, sseq_nx s6, sseq_nx s7, s8]
end K11

set_option Elab.async false
set_option linter.all false
set_option maxRecDepth 100000
set_option maxHeartbeats 4000000
set_option autoImplicit false
namespace K11
open PySem L2 Tw
local macro_rules | `(tactic| walk_at "sm") => `(tactic| first | assumption | exact Sm.lit200 (by decide) | (apply Sm.mul; walk_at "sm"; walk_at "sm") | (apply Sm.add2; walk_at "sm"; walk_at "sm") | (apply Sm.sub2; walk_at "sm"; walk_at "sm") | (apply Sm.neg; walk_at "sm"))
local macro_rules | `(tactic| walk_at "mo") => `(tactic| (apply mulOk_any; walk_at "sm"; walk_at "sm"; decide))
local macro_rules | `(tactic| walk_at "ds") => `(tactic| first | assumption | rfl | walk_at "mo" | decide | omega | grind)
local macro_rules | `(tactic| walk_at "tw") => `(tactic| simp (disch := walk_at "ds") only [mdef, startL, sseq, zNx, zIf, zRet, zRetN, zEx, zBk, zCt, zRaise, zRaiseN, sasg, spar, spar3, sof_ret, sof_ok, mret_ap, mbind_ap, obind_ok, mbind_ret, mbind_bad, kC, kOp, kUn, kB, kAnd, kOr, kNot, kAndV, kOrV, kNotV, kIf, kCh, aNil, aCons, kCall, kMk, kMkV, kCmS, kMeth, kProp, kFld, iL, iT, iR1, iR2, mvar, gnm, gtm, glm, gem, gcn, gnl, asB, asL, asT, int2, int2c, addIL, addI, subI, mul_eq, fdv_eq, fdv_64, fmd_eq, ne_eq, not_false_eq_true, Int.reduceEq, Nat.reduceLeDiff, Int.reduceAdd, Int.reduceNeg, Int.reduceLT, Int.reduceLE, Int.reduceSub, Nat.reduceEqDiff, p9, p15, p18, p20, p30, p6, negI, ltI, leI, gtI, geI, eqA_int, eqA_bl, neA_int, neA_bl, isBo, notBo, isNo, notNo, tupD, lstD, itemD, gcdD, gcd4D, intD, absD, lenD, listD, tupleD, penGet, penPut, Pen.get, Pen.put, bagGet, bagPut, Pen.bget, Pen.bput, objPut,
  isI_ins, at0, at1, at2, isiA_int, isiA_bl, isiA_non, isiA_str, isiA_tup, isiA_lst, ii_int, ii_bool, ib_int, ib_bool, in_int, is_int, it_int, il_int, it_tuple, nox_ret, nox_ok,
  List.map_cons, List.map_nil, List.length_cons, List.length_nil, List.cons_append, List.nil_append, List.append_nil, List.getElem?_cons_zero, List.getElem?_cons_succ, List.set_cons_zero, List.set_cons_succ, List.replicate_succ, List.replicate_zero, Nat.reduceSub, Nat.reduceAdd, if_true, if_false, decide_eq_true_eq, Bool.not_eq_true', Bool.true_eq_false, Bool.false_eq_true, reduceIte, decide_true, decide_false, Bool.not_true, Bool.not_false, ite_true, ite_false, List.length_map, and_true, true_and, and_false, false_and, and_self, or_true, true_or, or_false, false_or, not_true_eq_false, Bool.not_eq_false, Bool.not_eq_true, decide_eq_false_iff_not, Int.sub_self, beq_self_eq_true, Bool.and_self, Bool.true_and, Bool.and_true, Bool.and_false, Bool.false_and, mk_mo, mk_fo, f_turn, f_across, f_up, g_across, g_up, g_moment, t_force, t_parts, is_mo, isnum_int, eqT3, neT2, add_mo, sub_mo, neg_mo, mul_mo, eq_mo, eq_tup, eq_fo, none_mo, cm_none, turning_t, turning_l, at_mo, measure_mo, about_fo, acting_fo, flag_eq, is_eq, numis_eq, *])
theorem sm_div {a g a' : Int} {n : Nat} (hg : 0 < g) (e : a = g * a') (h : Sm n a) : Sm n a' := by
  unfold Sm at *
  have h1 : a.natAbs = g.natAbs * a'.natAbs := by rw [e, Int.natAbs_mul]
  have h2 : 1 ≤ g.natAbs := by omega
  have h3 : 1 * a'.natAbs ≤ g.natAbs * a'.natAbs := Nat.mul_le_mul_right _ h2
  omega
theorem mk_th (a b c p : Int) (hp : 0 < p) (h9 : p.natAbs.log2 < 9000) : ∃ g a' b' c' p' : Int, 0 < g ∧ a = g * a' ∧ b = g * b' ∧ c = g * c' ∧ p = g * p' ∧ mkD 8 m_Thrust___init__ [fo a b c, .int p] = mret (th a' b' c' p') := by
  obtain ⟨G, hG⟩ : ∃ G : Nat, G = ((a.natAbs.gcd b.natAbs).gcd c.natAbs).gcd p.natAbs := ⟨_, rfl⟩
  have d1 : (G : Int) ∣ a := by
    rw [hG]; exact Int.natAbs_dvd_natAbs.mp (Nat.dvd_trans (Nat.gcd_dvd_left _ _) (Nat.dvd_trans (Nat.gcd_dvd_left _ _) (Nat.gcd_dvd_left _ _)))
  have d2 : (G : Int) ∣ b := by
    rw [hG]; exact Int.natAbs_dvd_natAbs.mp (Nat.dvd_trans (Nat.gcd_dvd_left _ _) (Nat.dvd_trans (Nat.gcd_dvd_left _ _) (Nat.gcd_dvd_right _ _)))
  have d3 : (G : Int) ∣ c := by
    rw [hG]; exact Int.natAbs_dvd_natAbs.mp (Nat.dvd_trans (Nat.gcd_dvd_left _ _) (Nat.gcd_dvd_right _ _))
  have d4n : G ∣ p.natAbs := by rw [hG]; exact Nat.gcd_dvd_right _ _
  have d4 : (G : Int) ∣ p := Int.natAbs_dvd_natAbs.mp d4n
  have G0 : 0 < G := Nat.pos_of_dvd_of_pos d4n (by omega)
  have Gl : ((G : Nat) : Int).natAbs.log2 < 9000 := Nat.lt_of_le_of_lt (log2_le (by have := Nat.le_of_dvd (by omega) d4n; omega)) h9
  have Gz : ((G : Nat) : Int) ≠ 0 := by omega
  obtain ⟨a', ea⟩ := d1
  obtain ⟨b', eb⟩ := d2
  obtain ⟨c', ec⟩ := d3
  obtain ⟨p', ep⟩ := d4
  have fa : a.fdiv G = a' := by rw [ea, Int.mul_fdiv_cancel_left _ Gz]
  have fb : b.fdiv G = b' := by rw [eb, Int.mul_fdiv_cancel_left _ Gz]
  have fc : c.fdiv G = c' := by rw [ec, Int.mul_fdiv_cancel_left _ Gz]
  have fp : p.fdiv G = p' := by rw [ep, Int.mul_fdiv_cancel_left _ Gz]
  refine ⟨G, a', b', c', p', by omega, ea, eb, ec, ep, ?_⟩
  funext s
  have n1 : ¬ p < 1 := by omega
  have hi : isiA ans [fo a b c, .cls 7] = mret (.bl true) := isiA_cls 7 rfl rfl
  have e : m_Thrust___init__ [.self, fo a b c, .int p] { s with obj := [], ocls := 8 } = .ok .non { s with obj := [("force", fo a' b' c'), ("parts", .int p')], ocls := 8 } := by
    have q1 : gcd4D [.int a, .int b, .int c, .int p] = mret (.int (G : Nat)) := by rw [hG]; rfl
    have v1 := fdv_eq (i := a) Gz Gl
    have v2 := fdv_eq (i := b) Gz Gl
    have v3 := fdv_eq (i := c) Gz Gl
    have v4 := fdv_eq (i := p) Gz Gl
    rw [fa] at v1
    rw [fb] at v2
    rw [fc] at v3
    rw [fp] at v4
    have e0 : b_Thrust___init___0 [some .self, some (fo a b c), some (.int p), none] { s with obj := [], ocls := 8 } = .nx [some .self, some (fo a b c), some (.int p), none] { s with obj := [], ocls := 8 } := by
      clear v1 v2 v3 v4 q1 fa fb fc fp ea eb ec ep
      unfold b_Thrust___init___0
      walk_at "tw"
    have e1 : b_Thrust___init___1 [some .self, some (fo a b c), some (.int p), none] { s with obj := [], ocls := 8 } = .nx [some .self, some (fo a b c), some (.int p), some (.int (G : Nat))] { s with obj := [], ocls := 8 } := by
      unfold b_Thrust___init___1
      simp only [sasg, kCall, aCons, aNil, kFld, mvar, mbind_ret, g_across, g_up, g_moment, q1, sof_ret, gnm, List.getElem?_cons_succ, List.getElem?_cons_zero, List.set_cons_succ, List.set_cons_zero]
    have e2 : b_Thrust___init___2 [some .self, some (fo a b c), some (.int p), some (.int (G : Nat))] { s with obj := [], ocls := 8 } = .nx [some .self, some (fo a b c), some (.int p), some (.int (G : Nat))] { s with obj := [("force", fo a' b' c')], ocls := 8 } := by
      unfold b_Thrust___init___2
      simp only [objPut, kMk, kOp, aCons, aNil, kFld, mvar, mbind_ret, g_across, g_up, g_moment, v1, v2, v3, mk_fo, List.append_nil, sof_ret, List.getElem?_cons_succ, List.getElem?_cons_zero]
      rfl
    have e3 : b_Thrust___init___3 [some .self, some (fo a b c), some (.int p), some (.int (G : Nat))] { s with obj := [("force", fo a' b' c')], ocls := 8 } = .nx [some .self, some (fo a b c), some (.int p), some (.int (G : Nat))] { s with obj := [("force", fo a' b' c'), ("parts", .int p')], ocls := 8 } := by
      unfold b_Thrust___init___3
      simp only [objPut, kOp, mvar, mbind_ret, v4, sof_ret, List.getElem?_cons_succ, List.getElem?_cons_zero]
      rfl
    show mdef 4 b_Thrust___init__ [.self, fo a b c, .int p] _ = _
    unfold mdef
    show (match b_Thrust___init__ [some .self, some (fo a b c), some (.int p), none] { s with obj := [], ocls := 8 } with | .nx _ s' => Out.ok D.non s' | .ret d s' => .ok d s' | .exc c ns xs _ s' => .exc c ns xs s' | _ => .bad) = _
    unfold b_Thrust___init__
    rw [sseq_nx e0, sseq_nx e1, sseq_nx e2, e3]
  exact mkD_of rfl e
theorem measof_eq (x y z a b c p : Int) (hx : Sm 111 x) (hy : Sm 111 y) (hz : Sm 111 z) (ha : Sm 110 a) (hb : Sm 110 b) (hc : Sm 110 c) (hp : p ≠ 0) (h9 : p.natAbs.log2 < 9000) : m_Motion_measure_of [mo x y z, th a b c p] = mret (rd (Rat.divInt (x * c + y * a + z * b) p)) := by
  funext s
  refine mdef_ret ?_
  have e := ratio_eq (x * c + y * a + z * b) p hp h9
  unfold b_Motion_measure_of
  walk_at "tw"
theorem rd_num (q : Rat) : isiA ans [.int q.num, .ty "bool"] = mret (.bl false) := by
  rw [isiA_int]; exact ii_bool _
theorem turn_eq (x0 x1 x2 x3 x5 x9 x14 x15 x16 x17 x18 : Option D) (a b c d e f u v w k p : Int) (s : Pen) (ha : Sm 110 a) (hb : Sm 110 b) (hc : Sm 110 c) (hd : Sm 110 d) (he : Sm 110 e) (hf : Sm 110 f) (hu : Sm 110 u) (hv : Sm 110 v) (hw : Sm 110 w) (hp : 0 < p) (hp2 : p < 100) (x8 : Option D) (x7 : Option D) (x6 : D) (h6 : x6 = tri a b c) :
    ∃ y14 y15 y16, lb_law_0 [x0, x1, x2, x3, some (tri u v w), x5, some x6, x7, x8, x9, some (.int k), some (.int p), some (mo a b c), some (mo d e f), x14, x15, x16, x17, x18] s = .nx [x0, x1, x2, x3, some (tri u v w), x5, some x6, x7, x8, x9, some (.int k), some (.int p), some (mo a b c), some (mo d e f), y14, y15, y16, x17, x18] s := by
  subst h6
  have h9 : p.natAbs.log2 < 9000 := Nat.lt_of_le_of_lt (log2_le (show p.natAbs ≤ 100 by omega)) (by decide)
  obtain ⟨g, v', w', u', p', hg, ev, ew, eu, ep, et⟩ := mk_th v w u p hp h9
  obtain ⟨g1, v1, w1, u1, p1, hg1, ev1, ew1, eu1, ep1, et1⟩ := mk_th v w u 1 (by decide) (by decide)
  have gp : g1 = 1 ∧ p1 = 1 := by
    have h1 : g1 = 1 := Int.eq_one_of_dvd_one (by omega) ⟨p1, ep1⟩
    subst h1
    omega
  obtain ⟨rfl, rfl⟩ := gp
  rw [Int.one_mul] at ev1 ew1 eu1
  subst ev1 ew1 eu1
  have sv := sm_div hg ev hv
  have sw := sm_div hg ew hw
  have su := sm_div hg eu hu
  have p0 : p' ≠ 0 := by intro z; subst z; simp at ep; omega
  have sp : p'.natAbs.log2 < 9000 := by
    have : Sm 7 p := by unfold Sm; omega
    have q := sm_div hg ep this
    unfold Sm at q
    exact Nat.lt_of_le_of_lt (log2_le (show p'.natAbs ≤ 128 by omega)) (by decide)
  have m1 := measof_eq a b c v' w' u' p' (ha.mono (by decide)) (hb.mono (by decide)) (hc.mono (by decide)) sv sw su p0 sp
  have m2 := measof_eq a b c v w u 1 (ha.mono (by decide)) (hb.mono (by decide)) (hc.mono (by decide)) hv hw hu (by decide) (by decide)
  have eq1 : Rat.divInt (a * u' + b * v' + c * w') p' = Rat.divInt (a * u + b * v + c * w) p := by
    have e1 : a * u + b * v + c * w = g * (a * u' + b * v' + c * w') := by rw [ev, ew, eu]; grind
    rw [e1, ep, Rat.divInt_mul_left (by omega)]
  rw [eq1] at m1
  have r1 := lratio_eq (a * u + b * v + c * w) p (by omega) h9
  rw [Bag.rd_one] at m2
  have sa : Sm 221 (a + d) := ha.add2 hd
  have sb : Sm 221 (b + e) := hb.add2 he
  have sc : Sm 221 (c + f) := hc.add2 hf
  have z1 : (a + d) * u + (b + e) * v + (c + f) * w = a * u + b * v + c * w + (d * u + e * v + f * w) := by grind
  have z2 := ne_rd (Rat.divInt (a * u + b * v + c * w) p)
  clear eq1 ev ew eu ep ep1
  unfold lb_law_0
  refine ⟨some (.int (a * u + b * v + c * w)), some (fo v w u), some (rd (Rat.divInt (a * u + b * v + c * w) p)), ?_⟩
  let R : Option D → Option D → Option D → Tw.Loc := fun y14 y15 y16 => [x0, x1, x2, x3, some (tri u v w), x5, some (tri a b c), x7, x8, x9, some (.int k), some (.int p), some (mo a b c), some (mo d e f), y14, y15, y16, x17, x18]
  refine sseq_nx' (s' := s) (ρ' := R (some (.int (a * u + b * v + c * w))) x15 x16) (by simp only [R]; clear m1 m2 r1 z1 z2 et et1; walk_at "tw") ?_
  refine sseq_nx' (s' := s) (ρ' := R (some (.int (a * u + b * v + c * w))) (some (fo v w u)) x16) (by simp only [R]; clear m1 m2 r1 z1 z2 et et1; walk_at "tw") ?_
  refine sseq_nx' (s' := s) (ρ' := R (some (.int (a * u + b * v + c * w))) (some (fo v w u)) x16) (by simp only [R]; clear m1 m2 r1 z1 z2 et et1; walk_at "tw") ?_
  refine sseq_nx' (s' := s) (ρ' := R (some (.int (a * u + b * v + c * w))) (some (fo v w u)) (some (rd (Rat.divInt (a * u + b * v + c * w) p)))) (by simp only [R]; clear m2 r1 z1 z2 et1; walk_at "tw") ?_
  refine sseq_nx' (s' := s) (ρ' := R (some (.int (a * u + b * v + c * w))) (some (fo v w u)) (some (rd (Rat.divInt (a * u + b * v + c * w) p)))) (by
    simp only [R]; clear m1 m2 z1 et et1
    unfold rd at *
    walk_at "tw") ?_
  simp only [R]; clear m1 r1 z2 et
  walk_at "tw"
end K11

set_option Elab.async false
set_option linter.all false
set_option maxRecDepth 100000
set_option maxHeartbeats 4000000
set_option autoImplicit false
namespace K11
open PySem L2 Tw
local macro_rules | `(tactic| walk_at "sm") => `(tactic| first | assumption | exact Sm.lit200 (by decide) | (apply Sm.mul; walk_at "sm"; walk_at "sm") | (apply Sm.add2; walk_at "sm"; walk_at "sm") | (apply Sm.sub2; walk_at "sm"; walk_at "sm") | (apply Sm.neg; walk_at "sm"))
local macro_rules | `(tactic| walk_at "mo") => `(tactic| (apply mulOk_any; walk_at "sm"; walk_at "sm"; decide))
local macro_rules | `(tactic| walk_at "ds") => `(tactic| first | assumption | rfl | walk_at "mo" | decide | omega | grind)
local macro_rules | `(tactic| walk_at "tw") => `(tactic| simp (disch := walk_at "ds") only [mdef, startL, sseq, zNx, zIf, zRet, zRetN, zEx, zBk, zCt, zRaise, zRaiseN, sasg, spar, spar3, sof_ret, sof_ok, mret_ap, mbind_ap, obind_ok, mbind_ret, mbind_bad, kC, kOp, kUn, kB, kAnd, kOr, kNot, kAndV, kOrV, kNotV, kIf, kCh, aNil, aCons, kCall, kMk, kMkV, kCmS, kMeth, kProp, kFld, iL, iT, iR1, iR2, mvar, gnm, gtm, glm, gem, gcn, gnl, asB, asL, asT, int2, int2c, addIL, addI, subI, mul_eq, fdv_eq, fdv_64, fmd_eq, ne_eq, not_false_eq_true, Int.reduceEq, Nat.reduceLeDiff, Int.reduceAdd, Int.reduceNeg, Int.reduceLT, Int.reduceLE, Int.reduceSub, Nat.reduceEqDiff, Nat.reduceLT, p9, p15, p18, p20, p30, p6, negI, ltI, leI, gtI, geI, eqA_int, eqA_bl, neA_int, neA_bl, isBo, notBo, isNo, notNo, tupD, lstD, itemD, gcdD, gcd4D, intD, absD, lenD, listD, tupleD, penGet, penPut, Pen.get, Pen.put, bagGet, bagPut, Pen.bget, Pen.bput, objPut,
  isI_ins, at0, at1, at2, isiA_int, isiA_bl, isiA_non, isiA_str, isiA_tup, isiA_lst, ii_int, ii_bool, ib_int, ib_bool, in_int, is_int, it_int, il_int, it_tuple, nox_ret, nox_ok,
  List.map_cons, List.map_nil, List.length_cons, List.length_nil, List.cons_append, List.nil_append, List.append_nil, List.getElem?_cons_zero, List.getElem?_cons_succ, List.set_cons_zero, List.set_cons_succ, List.replicate_succ, List.replicate_zero, Nat.reduceSub, Nat.reduceAdd, if_true, if_false, decide_eq_true_eq, Bool.not_eq_true', Bool.true_eq_false, Bool.false_eq_true, reduceIte, decide_true, decide_false, Bool.not_true, Bool.not_false, ite_true, ite_false, List.length_map, and_true, true_and, and_false, false_and, and_self, or_true, true_or, or_false, false_or, not_true_eq_false, Bool.not_eq_false, Bool.not_eq_true, decide_eq_false_iff_not, Int.sub_self, beq_self_eq_true, Bool.and_self, Bool.true_and, Bool.and_true, Bool.and_false, Bool.false_and, mk_mo, mk_fo, is_eq, *])
theorem odd_of {od : D} (h : od ∈ ([.bl true, .bl false, .non, .str "2", .str "", .lst [.int 3], .tup [.int 1, .int 2], fo 1 2 3] : List D)) : Odd od := by
  simp only [List.mem_cons, List.not_mem_nil, or_false] at h
  rcases h with rfl | rfl | rfl | rfl | rfl | rfl | rfl | rfl
  · exact odd_bl _
  · exact odd_bl _
  · exact odd_non
  · exact odd_str _
  · exact odd_str _
  · exact odd_lst _ rfl
  · exact odd_tup _ rfl
  · exact odd_fo _ _ _
theorem loop_eq (x0 x1 x2 x3 x5 : Option D) (x17 x18 x4 x14 x15 x16 : Option D) (a b c d e f u v w x y z k p : Int) (s : Pen) (ha : Sm 110 a) (hb : Sm 110 b) (hc : Sm 110 c) (hd : Sm 110 d) (he : Sm 110 e) (hf : Sm 110 f) (hu : Sm 110 u) (hv : Sm 110 v) (hw : Sm 110 w) (hx : Sm 110 x) (hy : Sm 110 y) (hz : Sm 110 z) (hp : 0 < p) (hp2 : p < 100) :
    ∃ y4 y14 y15 y16, b_law_6 [x0, x1, x2, x3, x4, x5, some (tri a b c), some (tri d e f), some (tri u v w), some (tri x y z), some (.int k), some (.int p), some (mo a b c), some (mo d e f), x14, x15, x16, x17, x18] s = .nx [x0, x1, x2, x3, y4, x5, some (tri a b c), some (tri d e f), some (tri u v w), some (tri x y z), some (.int k), some (.int p), some (mo a b c), some (mo d e f), y14, y15, y16, x17, x18] s := by
  let R : Option D → Option D → Option D → Option D → Tw.Loc := fun y4 y14 y15 y16 => [x0, x1, x2, x3, y4, x5, some (tri a b c), some (tri d e f), some (tri u v w), some (tri x y z), some (.int k), some (.int p), some (mo a b c), some (mo d e f), y14, y15, y16, x17, x18]
  obtain ⟨ρ', e', y4, y14, y15, y16, rfl⟩ := sloop_all (gm := gnm 4) (mb := lb_law_0) (s := s) (fun ρ => ∃ y4 y14 y15 y16, ρ = R y4 y14 y15 y16) [tri u v w, tri x y z, tri u v w] (R x4 x14 x15 x16) ⟨_, _, _, _, rfl⟩ (fun g hg ρ hρ => by
    obtain ⟨y4, y14, y15, y16, rfl⟩ := hρ
    simp only [List.mem_cons, List.not_mem_nil, or_false] at hg
    rcases hg with rfl | rfl | rfl
    · obtain ⟨z14, z15, z16, h⟩ := turn_eq x0 x1 x2 x3 x5 (some (tri x y z)) y14 y15 y16 x17 x18 a b c d e f u v w k p s ha hb hc hd he hf hu hv hw hp hp2 (some (tri u v w)) (some (tri d e f)) _ rfl
      exact ⟨_, _, rfl, h, _, _, _, _, rfl⟩
    · obtain ⟨z14, z15, z16, h⟩ := turn_eq x0 x1 x2 x3 x5 (some (tri x y z)) y14 y15 y16 x17 x18 a b c d e f x y z k p s ha hb hc hd he hf hx hy hz hp hp2 (some (tri u v w)) (some (tri d e f)) _ rfl
      exact ⟨_, _, rfl, h, _, _, _, _, rfl⟩
    · obtain ⟨z14, z15, z16, h⟩ := turn_eq x0 x1 x2 x3 x5 (some (tri x y z)) y14 y15 y16 x17 x18 a b c d e f u v w k p s ha hb hc hd he hf hu hv hw hp hp2 (some (tri u v w)) (some (tri d e f)) _ rfl
      exact ⟨_, _, rfl, h, _, _, _, _, rfl⟩)
  refine ⟨y4, y14, y15, y16, ?_⟩
  have ei : iT (kCall tupD (aCons (mvar 8) (aCons (mvar 9) (aCons (mvar 8) aNil)))) (R x4 x14 x15 x16) s = .ok [tri u v w, tri x y z, tri u v w] s := rfl
  show b_law_6 (R x4 x14 x15 x16) s = _
  unfold b_law_6 sfor
  rw [ei, sof_ok]
  exact e'
theorem good (s : Pen) : ∃ s', b_law ρ0 s = .ret (.bl true) s' := by
  obtain ⟨a, b, c, s1, e1, ha, hb, hc⟩ := three_ok s
  obtain ⟨d, e, f, s2, e2, hd, he, hf⟩ := three_ok s1
  obtain ⟨u, v, w, s3, e3, hu, hv, hw⟩ := three_ok s2
  obtain ⟨x, y, z, s4, e4, hx, hy, hz⟩ := three_ok s3
  obtain ⟨q1, s5, e5, q10, q11, _⟩ := take_ok s4 2000001 (by decide) (by decide)
  obtain ⟨q2, s6, e6, q20, q21, _⟩ := take_ok s5 2000001 (by decide) (by decide)
  obtain ⟨k, s7, e7, hk⟩ := num_ok s6
  obtain ⟨t, s8, e8, t0, t1, _⟩ := take_ok s7 12 (by decide) (by decide)
  obtain ⟨pl, s9, e9, pl0, pl1, _⟩ := take_ok s8 3 (by decide) (by decide)
  obtain ⟨od, s10, e10, hod, _⟩ := of_ok s9 [.bl true, .bl false, .non, .str "2", .str "", .lst [.int 3], .tup [.int 1, .int 2], fo 1 2 3] (by decide) (by decide)
  have hodd := odd_of hod
  clear hod
  let P : D := .tup [.int (q1 - 1000000), .int (q2 - 1000000)]
  let R1 : Tw.Loc := [none, some .bag, none, none, none, none, some (tri a b c), some (tri d e f), some (tri u v w), some (tri x y z), none, none, none, none, none, none, none, none, none]
  let R2 : Tw.Loc := [none, some .bag, some (.int 2000001), none, none, none, some (tri a b c), some (tri d e f), some (tri u v w), some (tri x y z), none, none, none, none, none, none, none, none, none]
  let R3 : Tw.Loc := [none, some .bag, some (.int 2000001), some P, none, none, some (tri a b c), some (tri d e f), some (tri u v w), some (tri x y z), none, none, none, none, none, none, none, none, none]
  let R4 : Tw.Loc := [none, some .bag, some (.int 2000001), some P, none, none, some (tri a b c), some (tri d e f), some (tri u v w), some (tri x y z), some (.int k), some (.int (1 + t)), none, none, none, none, none, none, none]
  let R5 : Tw.Loc := [none, some .bag, some (.int 2000001), some P, none, none, some (tri a b c), some (tri d e f), some (tri u v w), some (tri x y z), some (.int k), some (.int (1 + t)), some (mo a b c), some (mo d e f), none, none, none, none, none]
  have z0 : b_law_0 ρ0 s = .nx R1 s4 := by
    simp only [R1]; unfold b_law_0 ρ0; walk_at "tw"
  have hm : mulI (.int 2) (.int 1000000) = mret (.int 2000000) := rfl
  have z1 : b_law_1 R1 s4 = .nx R2 s4 := by
    simp only [R1, R2]; unfold b_law_1; walk_at "tw"
  have z2 : b_law_2 R2 s4 = .nx R3 s6 := by
    simp only [R2, R3, P]; unfold b_law_2; walk_at "tw"
  have z3 : b_law_3 R3 s6 = .nx R4 s8 := by
    simp only [R3, R4, P]; unfold b_law_3; walk_at "tw"
  have g1 := signs_eq a b c d e f k ha hb hc hk
  have g2 := signs_eq d e f a b c k hd he hf hk
  have g3 := points_eq a b c u v w (q1 - 1000000) (q2 - 1000000) k ha hb hc hu hv hw hk (by unfold Sm; omega) (by unfold Sm; omega)
  have z4 : b_law_4 R4 s8 = .nx R4 s8 := by
    clear e1 e2 e3 e4 e5 e6 e7 e8 e9 e10 z0 z1 z2 z3 hm
    simp only [R4, P]; unfold b_law_4; walk_at "tw"
  have z5 : b_law_5 R4 s8 = .nx R5 s8 := by
    clear e1 e2 e3 e4 e5 e6 e7 e8 e9 e10 z0 z1 z2 z3 z4 g1 g2 g3 hm
    simp only [R4, R5, P]; unfold b_law_5; walk_at "tw"
  obtain ⟨y4, y14, y15, y16, z6⟩ := loop_eq none (some .bag) (some (.int 2000001)) (some P) none none none none none none none a b c d e f u v w x y z k (1 + t) s8 ha hb hc hd he hf hu hv hw hx hy hz (by omega) (by omega)
  have z6' : b_law_6 R5 s8 = _ := z6
  let R6 : Option D → Option D → Option D → Tw.Loc := fun y5 y17 y18 => [none, some .bag, some (.int 2000001), some P, y4, y5, some (tri a b c), some (tri d e f), some (tri u v w), some (tri x y z), some (.int k), some (.int (1 + t)), some (mo a b c), some (mo d e f), y14, y15, y16, y17, y18]
  have z7 : b_law_7 (R6 none none none) s8 = .nx (R6 none (some (.int pl)) (some od)) s10 := by
    clear e1 e2 e3 e4 e5 e6 e7 e8 z0 z1 z2 z3 z4 z5 z6 z6' g1 g2 g3 hm
    simp only [R6, P]; unfold b_law_7; walk_at "tw"
  have hall : ∃ wl, b_law_8 (R6 none (some (.int pl)) (some od)) s10 = .nx (R6 (some wl) (some (.int pl)) (some od)) s10 ∧ m__law_refused [wl] = mret (.bl true) := by
    clear e1 e2 e3 e4 e5 e6 e7 e8 e9 e10 z0 z1 z2 z3 z4 z5 z6 z6' z7 g1 g2 g3 hm
    have h3 : pl = 0 ∨ pl = 1 ∨ pl = 2 := by omega
    have cl : ∀ i : Int, clear (.int i) = true := fun _ => rfl
    rcases h3 with rfl | rfl | rfl
    · refine ⟨.lst [od, .int b, .int c], ?_, refused_eq od (.int b) (.int c) (by simp only [clearL, cl, hodd.2, Bool.and_self]) false true true hodd.1 (isnum_int b) (isnum_int c) rfl⟩
      have ix : ixN 3 0 = some 0 := rfl
      simp only [R6, P]; unfold b_law_8 sLset; walk_at "tw"
    · refine ⟨.lst [.int a, od, .int c], ?_, refused_eq (.int a) od (.int c) (by simp only [clearL, cl, hodd.2, Bool.and_self]) true false true (isnum_int a) hodd.1 (isnum_int c) rfl⟩
      have ix : ixN 3 1 = some 1 := rfl
      simp only [R6, P]; unfold b_law_8 sLset; walk_at "tw"
    · refine ⟨.lst [.int a, .int b, od], ?_, refused_eq (.int a) (.int b) od (by simp only [clearL, cl, hodd.2, Bool.and_self]) true true false (isnum_int a) (isnum_int b) hodd.1 rfl⟩
      have ix : ixN 3 2 = some 2 := rfl
      simp only [R6, P]; unfold b_law_8 sLset; walk_at "tw"
  obtain ⟨wl, z8, hw1⟩ := hall
  have hw2 := refused_eq od od od (by simp only [clearL, hodd.2, Bool.and_self]) false false false hodd.1 hodd.1 hodd.1 rfl
  have z9 : b_law_9 (R6 (some wl) (some (.int pl)) (some od)) s10 = .ret (.bl true) s10 := by
    clear e1 e2 e3 e4 e5 e6 e7 e8 e9 e10 z0 z1 z2 z3 z4 z5 z6 z6' z7 z8 g1 g2 g3 hm
    simp only [R6, P]; unfold b_law_9; walk_at "tw"
  refine ⟨s10, ?_⟩
  unfold b_law
  rw [sseq_nx z0, sseq_nx z1, sseq_nx z2, sseq_nx z3, sseq_nx z4, sseq_nx z5, sseq_nx z6', sseq_nx z7, sseq_nx z8, z9]
end K11

set_option Elab.async false
set_option linter.all false
set_option maxRecDepth 100000
set_option maxHeartbeats 4000000
set_option autoImplicit false
namespace K11
open PySem L2 PySem.Spec PyProof.Rows Tw
theorem all_mk {l : PySem.W.OpenLaw} {w : World} {K : PySem.W.Frag} {h : Heap} {mg : Str → Option Value} {fa : Addr} (X : K.In h) (G : h.Ns mainGlobals mg) (hfa : mg "law" = some (.ref fa))
    {f__law_take : Addr}
    {od__law_take an__law_take : Option Addr}
    {sl__law_take : Array (Option Value)}
    {oc__law_take kV__law_take dc__law_take pm__law_take cd__law_take ct__law_take : Value}
    {f__law_of : Addr}
    {od__law_of an__law_of : Option Addr}
    {sl__law_of : Array (Option Value)}
    {oc__law_of kV__law_of dc__law_of pm__law_of cd__law_of ct__law_of : Value}
    {f__law_number : Addr}
    {od__law_number an__law_number : Option Addr}
    {sl__law_number : Array (Option Value)}
    {oc__law_number kV__law_number dc__law_number pm__law_number cd__law_number ct__law_number : Value}
    {f__law_gcd : Addr}
    {od__law_gcd an__law_gcd : Option Addr}
    {sl__law_gcd : Array (Option Value)}
    {oc__law_gcd kV__law_gcd dc__law_gcd pm__law_gcd cd__law_gcd ct__law_gcd : Value}
    {f__law_ratio : Addr}
    {od__law_ratio an__law_ratio : Option Addr}
    {sl__law_ratio : Array (Option Value)}
    {oc__law_ratio kV__law_ratio dc__law_ratio pm__law_ratio cd__law_ratio ct__law_ratio : Value}
    {f__law_three : Addr}
    {od__law_three an__law_three : Option Addr}
    {sl__law_three : Array (Option Value)}
    {oc__law_three kV__law_three dc__law_three pm__law_three cd__law_three ct__law_three : Value}
    {f__law_flag : Addr}
    {od__law_flag an__law_flag : Option Addr}
    {sl__law_flag : Array (Option Value)}
    {oc__law_flag kV__law_flag dc__law_flag pm__law_flag cd__law_flag ct__law_flag : Value}
    {f__law_is : Addr}
    {od__law_is an__law_is : Option Addr}
    {sl__law_is : Array (Option Value)}
    {oc__law_is kV__law_is dc__law_is pm__law_is cd__law_is ct__law_is : Value}
    {f_is_number : Addr}
    {od_is_number an_is_number : Option Addr}
    {sl_is_number : Array (Option Value)}
    {oc_is_number kV_is_number dc_is_number pm_is_number cd_is_number ct_is_number : Value}
    {f_Motion___init__ : Addr}
    {od_Motion___init__ an_Motion___init__ : Option Addr}
    {sl_Motion___init__ : Array (Option Value)}
    {oc_Motion___init__ kV_Motion___init__ dc_Motion___init__ pm_Motion___init__ cd_Motion___init__ ct_Motion___init__ : Value}
    {f__law_refused : Addr}
    {od__law_refused an__law_refused : Option Addr}
    {sl__law_refused : Array (Option Value)}
    {oc__law_refused kV__law_refused dc__law_refused pm__law_refused cd__law_refused ct__law_refused : Value}
    {f__law_number_is : Addr}
    {od__law_number_is an__law_number_is : Option Addr}
    {sl__law_number_is : Array (Option Value)}
    {oc__law_number_is kV__law_number_is dc__law_number_is pm__law_number_is cd__law_number_is ct__law_number_is : Value}
    {f_Motion___add__ : Addr}
    {od_Motion___add__ an_Motion___add__ : Option Addr}
    {sl_Motion___add__ : Array (Option Value)}
    {oc_Motion___add__ kV_Motion___add__ dc_Motion___add__ pm_Motion___add__ cd_Motion___add__ ct_Motion___add__ : Value}
    {f_Motion___sub__ : Addr}
    {od_Motion___sub__ an_Motion___sub__ : Option Addr}
    {sl_Motion___sub__ : Array (Option Value)}
    {oc_Motion___sub__ kV_Motion___sub__ dc_Motion___sub__ pm_Motion___sub__ cd_Motion___sub__ ct_Motion___sub__ : Value}
    {f_Motion___neg__ : Addr}
    {od_Motion___neg__ an_Motion___neg__ : Option Addr}
    {sl_Motion___neg__ : Array (Option Value)}
    {oc_Motion___neg__ kV_Motion___neg__ dc_Motion___neg__ pm_Motion___neg__ cd_Motion___neg__ ct_Motion___neg__ : Value}
    {f_Motion___mul__ : Addr}
    {od_Motion___mul__ an_Motion___mul__ : Option Addr}
    {sl_Motion___mul__ : Array (Option Value)}
    {oc_Motion___mul__ kV_Motion___mul__ dc_Motion___mul__ pm_Motion___mul__ cd_Motion___mul__ ct_Motion___mul__ : Value}
    {f_Motion___eq__ : Addr}
    {od_Motion___eq__ an_Motion___eq__ : Option Addr}
    {sl_Motion___eq__ : Array (Option Value)}
    {oc_Motion___eq__ kV_Motion___eq__ dc_Motion___eq__ pm_Motion___eq__ cd_Motion___eq__ ct_Motion___eq__ : Value}
    {f_Force___init__ : Addr}
    {od_Force___init__ an_Force___init__ : Option Addr}
    {sl_Force___init__ : Array (Option Value)}
    {oc_Force___init__ kV_Force___init__ dc_Force___init__ pm_Force___init__ cd_Force___init__ ct_Force___init__ : Value}
    {f_Motion_is_none : Addr}
    {od_Motion_is_none an_Motion_is_none : Option Addr}
    {sl_Motion_is_none : Array (Option Value)}
    {oc_Motion_is_none kV_Motion_is_none dc_Motion_is_none pm_Motion_is_none cd_Motion_is_none ct_Motion_is_none : Value}
    {f_Motion_none : Addr}
    {od_Motion_none an_Motion_none : Option Addr}
    {sl_Motion_none : Array (Option Value)}
    {oc_Motion_none kV_Motion_none dc_Motion_none pm_Motion_none cd_Motion_none ct_Motion_none : Value}
    {f__law_signs : Addr}
    {od__law_signs an__law_signs : Option Addr}
    {sl__law_signs : Array (Option Value)}
    {oc__law_signs kV__law_signs dc__law_signs pm__law_signs cd__law_signs ct__law_signs : Value}
    {f_Motion_turning : Addr}
    {od_Motion_turning an_Motion_turning : Option Addr}
    {sl_Motion_turning : Array (Option Value)}
    {oc_Motion_turning kV_Motion_turning dc_Motion_turning pm_Motion_turning cd_Motion_turning ct_Motion_turning : Value}
    {T_Motion_turning : Addr}
    {toc_Motion_turning : Value}
    {tod_Motion_turning : Option Addr}
    {tsl_Motion_turning : Array (Option Value)}
    {tn_Motion_turning : Nat}
    {ttk0_Motion_turning : Tok}
    {f_Motion_at : Addr}
    {od_Motion_at an_Motion_at : Option Addr}
    {sl_Motion_at : Array (Option Value)}
    {oc_Motion_at kV_Motion_at dc_Motion_at pm_Motion_at cd_Motion_at ct_Motion_at : Value}
    {f_Motion_measure : Addr}
    {od_Motion_measure an_Motion_measure : Option Addr}
    {sl_Motion_measure : Array (Option Value)}
    {oc_Motion_measure kV_Motion_measure dc_Motion_measure pm_Motion_measure cd_Motion_measure ct_Motion_measure : Value}
    {f_Force_about : Addr}
    {od_Force_about an_Force_about : Option Addr}
    {sl_Force_about : Array (Option Value)}
    {oc_Force_about kV_Force_about dc_Force_about pm_Force_about cd_Force_about ct_Force_about : Value}
    {f_Force_acting : Addr}
    {od_Force_acting an_Force_acting : Option Addr}
    {sl_Force_acting : Array (Option Value)}
    {oc_Force_acting kV_Force_acting dc_Force_acting pm_Force_acting cd_Force_acting ct_Force_acting : Value}
    {f__law_points : Addr}
    {od__law_points an__law_points : Option Addr}
    {sl__law_points : Array (Option Value)}
    {oc__law_points kV__law_points dc__law_points pm__law_points cd__law_points ct__law_points : Value}
    {f__law_bag : Addr}
    {od__law_bag an__law_bag : Option Addr}
    {sl__law_bag : Array (Option Value)}
    {oc__law_bag kV__law_bag dc__law_bag pm__law_bag cd__law_bag ct__law_bag : Value}
    {f_ratio : Addr}
    {od_ratio an_ratio : Option Addr}
    {sl_ratio : Array (Option Value)}
    {oc_ratio kV_ratio dc_ratio pm_ratio cd_ratio ct_ratio : Value}
    {f_Motion_measure_of : Addr}
    {od_Motion_measure_of an_Motion_measure_of : Option Addr}
    {sl_Motion_measure_of : Array (Option Value)}
    {oc_Motion_measure_of kV_Motion_measure_of dc_Motion_measure_of pm_Motion_measure_of cd_Motion_measure_of ct_Motion_measure_of : Value}
    {f_Thrust___init__ : Addr}
    {od_Thrust___init__ an_Thrust___init__ : Option Addr}
    {sl_Thrust___init__ : Array (Option Value)}
    {oc_Thrust___init__ kV_Thrust___init__ dc_Thrust___init__ pm_Thrust___init__ cd_Thrust___init__ ct_Thrust___init__ : Value}
    {T_Thrust___init__ : Addr}
    {toc_Thrust___init__ : Value}
    {tod_Thrust___init__ : Option Addr}
    {tsl_Thrust___init__ : Array (Option Value)}
    {tn_Thrust___init__ : Nat}
    {ttk0_Thrust___init__ : Tok}
    {f_law : Addr}
    {od_law an_law : Option Addr}
    {sl_law : Array (Option Value)}
    {oc_law kV_law dc_law pm_law cd_law ct_law : Value}
    {C_BridgeError : Addr}
    {C_BadRatio : Addr}
    {C_BadForce : Addr}
    {C_BadThrust : Addr}
    {C_BadMotion : Addr}
    {C_BadWeights : Addr}
    {C_Motion : Addr}
    {C_Force : Addr}
    {C_Thrust : Addr}
    {fo_Motion___mul__ ro_Motion___mul__ : Option Value}
    {P_Motion_is_none : Addr}
    {re_Motion_is_none : List Value}
    {P_Motion_none : Addr}
    {re_Motion_none : List Value}
    {P_Motion_turning : Addr}
    {re_Motion_turning : List Value}
    {P_Force_acting : Addr}
    {re_Force_acting : List Value}
    {I_BadRatio : Addr}
    {odi_BadRatio ani_BadRatio : Option Addr}
    {sli_BadRatio : Array (Option Value)}
    {oci_BadRatio kVi_BadRatio dci_BadRatio pmi_BadRatio cdi_BadRatio cti_BadRatio : Value}
    {nm_BadRatio qn_BadRatio : Str} {N_BadRatio : Addr} {bs_BadRatio bm_BadRatio : List Value} {sn_BadRatio : List Str} {sub_BadRatio : List Value} {ab_BadRatio : Bool} {col_BadRatio : Option Bool} {dd_BadRatio : Option Addr} {k0_BadRatio k1_BadRatio k2_BadRatio k3_BadRatio k5_BadRatio : Option Value}
    {I_BadForce : Addr}
    {odi_BadForce ani_BadForce : Option Addr}
    {sli_BadForce : Array (Option Value)}
    {oci_BadForce kVi_BadForce dci_BadForce pmi_BadForce cdi_BadForce cti_BadForce : Value}
    {nm_BadForce qn_BadForce : Str} {N_BadForce : Addr} {bs_BadForce bm_BadForce : List Value} {sn_BadForce : List Str} {sub_BadForce : List Value} {ab_BadForce : Bool} {col_BadForce : Option Bool} {dd_BadForce : Option Addr} {k0_BadForce k1_BadForce k2_BadForce k3_BadForce k5_BadForce : Option Value}
    {I_BadThrust : Addr}
    {odi_BadThrust ani_BadThrust : Option Addr}
    {sli_BadThrust : Array (Option Value)}
    {oci_BadThrust kVi_BadThrust dci_BadThrust pmi_BadThrust cdi_BadThrust cti_BadThrust : Value}
    {nm_BadThrust qn_BadThrust : Str} {N_BadThrust : Addr} {bs_BadThrust bm_BadThrust : List Value} {sn_BadThrust : List Str} {sub_BadThrust : List Value} {ab_BadThrust : Bool} {col_BadThrust : Option Bool} {dd_BadThrust : Option Addr} {k0_BadThrust k1_BadThrust k2_BadThrust k3_BadThrust k5_BadThrust : Option Value}
    {I_BadMotion : Addr}
    {odi_BadMotion ani_BadMotion : Option Addr}
    {sli_BadMotion : Array (Option Value)}
    {oci_BadMotion kVi_BadMotion dci_BadMotion pmi_BadMotion cdi_BadMotion cti_BadMotion : Value}
    {nm_BadMotion qn_BadMotion : Str} {N_BadMotion : Addr} {bs_BadMotion bm_BadMotion : List Value} {sn_BadMotion : List Str} {sub_BadMotion : List Value} {ab_BadMotion : Bool} {col_BadMotion : Option Bool} {dd_BadMotion : Option Addr} {k0_BadMotion k1_BadMotion k2_BadMotion k3_BadMotion k5_BadMotion : Option Value}
    (a__law_take : PySem.W.nsIn K mainGlobals "_law_take" = some (some (.ref f__law_take)))
    (l__law_take : K.lookup f__law_take = some ⟨oc__law_take, od__law_take, .func (PySem.W.fnOf "_law_take" "_law_take" (defArgs s__law_take) (defBody s__law_take) (defScope s__law_take) .none kV__law_take dc__law_take pm__law_take an__law_take cd__law_take ct__law_take), sl__law_take⟩)
    (c__law_take : PySem.W.codeIn K cd__law_take "_law_take" = true)
    (k__law_take : PySem.W.keepIn K (.ref f__law_take) = true)
    (a__law_of : PySem.W.nsIn K mainGlobals "_law_of" = some (some (.ref f__law_of)))
    (l__law_of : K.lookup f__law_of = some ⟨oc__law_of, od__law_of, .func (PySem.W.fnOf "_law_of" "_law_of" (defArgs s__law_of) (defBody s__law_of) (defScope s__law_of) .none kV__law_of dc__law_of pm__law_of an__law_of cd__law_of ct__law_of), sl__law_of⟩)
    (c__law_of : PySem.W.codeIn K cd__law_of "_law_of" = true)
    (k__law_of : PySem.W.keepIn K (.ref f__law_of) = true)
    (a__law_number : PySem.W.nsIn K mainGlobals "_law_number" = some (some (.ref f__law_number)))
    (l__law_number : K.lookup f__law_number = some ⟨oc__law_number, od__law_number, .func (PySem.W.fnOf "_law_number" "_law_number" (defArgs s__law_number) (defBody s__law_number) (defScope s__law_number) .none kV__law_number dc__law_number pm__law_number an__law_number cd__law_number ct__law_number), sl__law_number⟩)
    (c__law_number : PySem.W.codeIn K cd__law_number "_law_number" = true)
    (k__law_number : PySem.W.keepIn K (.ref f__law_number) = true)
    (a__law_gcd : PySem.W.nsIn K mainGlobals "_law_gcd" = some (some (.ref f__law_gcd)))
    (l__law_gcd : K.lookup f__law_gcd = some ⟨oc__law_gcd, od__law_gcd, .func (PySem.W.fnOf "_law_gcd" "_law_gcd" (defArgs s__law_gcd) (defBody s__law_gcd) (defScope s__law_gcd) .none kV__law_gcd dc__law_gcd pm__law_gcd an__law_gcd cd__law_gcd ct__law_gcd), sl__law_gcd⟩)
    (c__law_gcd : PySem.W.codeIn K cd__law_gcd "_law_gcd" = true)
    (k__law_gcd : PySem.W.keepIn K (.ref f__law_gcd) = true)
    (a__law_ratio : PySem.W.nsIn K mainGlobals "_law_ratio" = some (some (.ref f__law_ratio)))
    (l__law_ratio : K.lookup f__law_ratio = some ⟨oc__law_ratio, od__law_ratio, .func (PySem.W.fnOf "_law_ratio" "_law_ratio" (defArgs s__law_ratio) (defBody s__law_ratio) (defScope s__law_ratio) .none kV__law_ratio dc__law_ratio pm__law_ratio an__law_ratio cd__law_ratio ct__law_ratio), sl__law_ratio⟩)
    (c__law_ratio : PySem.W.codeIn K cd__law_ratio "_law_ratio" = true)
    (k__law_ratio : PySem.W.keepIn K (.ref f__law_ratio) = true)
    (a__law_three : PySem.W.nsIn K mainGlobals "_law_three" = some (some (.ref f__law_three)))
    (l__law_three : K.lookup f__law_three = some ⟨oc__law_three, od__law_three, .func (PySem.W.fnOf "_law_three" "_law_three" (defArgs s__law_three) (defBody s__law_three) (defScope s__law_three) .none kV__law_three dc__law_three pm__law_three an__law_three cd__law_three ct__law_three), sl__law_three⟩)
    (c__law_three : PySem.W.codeIn K cd__law_three "_law_three" = true)
    (k__law_three : PySem.W.keepIn K (.ref f__law_three) = true)
    (a__law_flag : PySem.W.nsIn K mainGlobals "_law_flag" = some (some (.ref f__law_flag)))
    (l__law_flag : K.lookup f__law_flag = some ⟨oc__law_flag, od__law_flag, .func (PySem.W.fnOf "_law_flag" "_law_flag" (defArgs s__law_flag) (defBody s__law_flag) (defScope s__law_flag) .none kV__law_flag dc__law_flag pm__law_flag an__law_flag cd__law_flag ct__law_flag), sl__law_flag⟩)
    (c__law_flag : PySem.W.codeIn K cd__law_flag "_law_flag" = true)
    (k__law_flag : PySem.W.keepIn K (.ref f__law_flag) = true)
    (a__law_is : PySem.W.nsIn K mainGlobals "_law_is" = some (some (.ref f__law_is)))
    (l__law_is : K.lookup f__law_is = some ⟨oc__law_is, od__law_is, .func (PySem.W.fnOf "_law_is" "_law_is" (defArgs s__law_is) (defBody s__law_is) (defScope s__law_is) .none kV__law_is dc__law_is pm__law_is an__law_is cd__law_is ct__law_is), sl__law_is⟩)
    (c__law_is : PySem.W.codeIn K cd__law_is "_law_is" = true)
    (k__law_is : PySem.W.keepIn K (.ref f__law_is) = true)
    (a_is_number : PySem.W.nsIn K mainGlobals "is_number" = some (some (.ref f_is_number)))
    (l_is_number : K.lookup f_is_number = some ⟨oc_is_number, od_is_number, .func (PySem.W.fnOf "is_number" "is_number" (defArgs s_is_number) (defBody s_is_number) (defScope s_is_number) .none kV_is_number dc_is_number pm_is_number an_is_number cd_is_number ct_is_number), sl_is_number⟩)
    (c_is_number : PySem.W.codeIn K cd_is_number "is_number" = true)
    (k_is_number : PySem.W.keepIn K (.ref f_is_number) = true)
    (l_Motion___init__ : K.lookup f_Motion___init__ = some ⟨oc_Motion___init__, od_Motion___init__, .func (PySem.W.fnOf "__init__" "Motion.__init__" (defArgs s_Motion___init__) (defBody s_Motion___init__) (defScope s_Motion___init__) .none kV_Motion___init__ dc_Motion___init__ pm_Motion___init__ an_Motion___init__ cd_Motion___init__ ct_Motion___init__), sl_Motion___init__⟩)
    (c_Motion___init__ : PySem.W.codeIn K cd_Motion___init__ "Motion.__init__" = true)
    (k_Motion___init__ : PySem.W.keepIn K (.ref f_Motion___init__) = true)
    (a__law_refused : PySem.W.nsIn K mainGlobals "_law_refused" = some (some (.ref f__law_refused)))
    (l__law_refused : K.lookup f__law_refused = some ⟨oc__law_refused, od__law_refused, .func (PySem.W.fnOf "_law_refused" "_law_refused" (defArgs s__law_refused) (defBody s__law_refused) (defScope s__law_refused) .none kV__law_refused dc__law_refused pm__law_refused an__law_refused cd__law_refused ct__law_refused), sl__law_refused⟩)
    (c__law_refused : PySem.W.codeIn K cd__law_refused "_law_refused" = true)
    (k__law_refused : PySem.W.keepIn K (.ref f__law_refused) = true)
    (a__law_number_is : PySem.W.nsIn K mainGlobals "_law_number_is" = some (some (.ref f__law_number_is)))
    (l__law_number_is : K.lookup f__law_number_is = some ⟨oc__law_number_is, od__law_number_is, .func (PySem.W.fnOf "_law_number_is" "_law_number_is" (defArgs s__law_number_is) (defBody s__law_number_is) (defScope s__law_number_is) .none kV__law_number_is dc__law_number_is pm__law_number_is an__law_number_is cd__law_number_is ct__law_number_is), sl__law_number_is⟩)
    (c__law_number_is : PySem.W.codeIn K cd__law_number_is "_law_number_is" = true)
    (k__law_number_is : PySem.W.keepIn K (.ref f__law_number_is) = true)
    (l_Motion___add__ : K.lookup f_Motion___add__ = some ⟨oc_Motion___add__, od_Motion___add__, .func (PySem.W.fnOf "__add__" "Motion.__add__" (defArgs s_Motion___add__) (defBody s_Motion___add__) (defScope s_Motion___add__) .none kV_Motion___add__ dc_Motion___add__ pm_Motion___add__ an_Motion___add__ cd_Motion___add__ ct_Motion___add__), sl_Motion___add__⟩)
    (c_Motion___add__ : PySem.W.codeIn K cd_Motion___add__ "Motion.__add__" = true)
    (k_Motion___add__ : PySem.W.keepIn K (.ref f_Motion___add__) = true)
    (l_Motion___sub__ : K.lookup f_Motion___sub__ = some ⟨oc_Motion___sub__, od_Motion___sub__, .func (PySem.W.fnOf "__sub__" "Motion.__sub__" (defArgs s_Motion___sub__) (defBody s_Motion___sub__) (defScope s_Motion___sub__) .none kV_Motion___sub__ dc_Motion___sub__ pm_Motion___sub__ an_Motion___sub__ cd_Motion___sub__ ct_Motion___sub__), sl_Motion___sub__⟩)
    (c_Motion___sub__ : PySem.W.codeIn K cd_Motion___sub__ "Motion.__sub__" = true)
    (k_Motion___sub__ : PySem.W.keepIn K (.ref f_Motion___sub__) = true)
    (l_Motion___neg__ : K.lookup f_Motion___neg__ = some ⟨oc_Motion___neg__, od_Motion___neg__, .func (PySem.W.fnOf "__neg__" "Motion.__neg__" (defArgs s_Motion___neg__) (defBody s_Motion___neg__) (defScope s_Motion___neg__) .none kV_Motion___neg__ dc_Motion___neg__ pm_Motion___neg__ an_Motion___neg__ cd_Motion___neg__ ct_Motion___neg__), sl_Motion___neg__⟩)
    (c_Motion___neg__ : PySem.W.codeIn K cd_Motion___neg__ "Motion.__neg__" = true)
    (k_Motion___neg__ : PySem.W.keepIn K (.ref f_Motion___neg__) = true)
    (l_Motion___mul__ : K.lookup f_Motion___mul__ = some ⟨oc_Motion___mul__, od_Motion___mul__, .func (PySem.W.fnOf "__mul__" "Motion.__mul__" (defArgs s_Motion___mul__) (defBody s_Motion___mul__) (defScope s_Motion___mul__) .none kV_Motion___mul__ dc_Motion___mul__ pm_Motion___mul__ an_Motion___mul__ cd_Motion___mul__ ct_Motion___mul__), sl_Motion___mul__⟩)
    (c_Motion___mul__ : PySem.W.codeIn K cd_Motion___mul__ "Motion.__mul__" = true)
    (k_Motion___mul__ : PySem.W.keepIn K (.ref f_Motion___mul__) = true)
    (l_Motion___eq__ : K.lookup f_Motion___eq__ = some ⟨oc_Motion___eq__, od_Motion___eq__, .func (PySem.W.fnOf "__eq__" "Motion.__eq__" (defArgs s_Motion___eq__) (defBody s_Motion___eq__) (defScope s_Motion___eq__) .none kV_Motion___eq__ dc_Motion___eq__ pm_Motion___eq__ an_Motion___eq__ cd_Motion___eq__ ct_Motion___eq__), sl_Motion___eq__⟩)
    (c_Motion___eq__ : PySem.W.codeIn K cd_Motion___eq__ "Motion.__eq__" = true)
    (k_Motion___eq__ : PySem.W.keepIn K (.ref f_Motion___eq__) = true)
    (l_Force___init__ : K.lookup f_Force___init__ = some ⟨oc_Force___init__, od_Force___init__, .func (PySem.W.fnOf "__init__" "Force.__init__" (defArgs s_Force___init__) (defBody s_Force___init__) (defScope s_Force___init__) .none kV_Force___init__ dc_Force___init__ pm_Force___init__ an_Force___init__ cd_Force___init__ ct_Force___init__), sl_Force___init__⟩)
    (c_Force___init__ : PySem.W.codeIn K cd_Force___init__ "Force.__init__" = true)
    (k_Force___init__ : PySem.W.keepIn K (.ref f_Force___init__) = true)
    (l_Motion_is_none : K.lookup f_Motion_is_none = some ⟨oc_Motion_is_none, od_Motion_is_none, .func (PySem.W.fnOf "is_none" "Motion.is_none" (defArgs s_Motion_is_none) (defBody s_Motion_is_none) (defScope s_Motion_is_none) .none kV_Motion_is_none dc_Motion_is_none pm_Motion_is_none an_Motion_is_none cd_Motion_is_none ct_Motion_is_none), sl_Motion_is_none⟩)
    (c_Motion_is_none : PySem.W.codeIn K cd_Motion_is_none "Motion.is_none" = true)
    (k_Motion_is_none : PySem.W.keepIn K (.ref f_Motion_is_none) = true)
    (l_Motion_none : K.lookup f_Motion_none = some ⟨oc_Motion_none, od_Motion_none, .func (PySem.W.fnOf "none" "Motion.none" (defArgs s_Motion_none) (defBody s_Motion_none) (defScope s_Motion_none) .none kV_Motion_none dc_Motion_none pm_Motion_none an_Motion_none cd_Motion_none ct_Motion_none), sl_Motion_none⟩)
    (c_Motion_none : PySem.W.codeIn K cd_Motion_none "Motion.none" = true)
    (k_Motion_none : PySem.W.keepIn K (.ref f_Motion_none) = true)
    (a__law_signs : PySem.W.nsIn K mainGlobals "_law_signs" = some (some (.ref f__law_signs)))
    (l__law_signs : K.lookup f__law_signs = some ⟨oc__law_signs, od__law_signs, .func (PySem.W.fnOf "_law_signs" "_law_signs" (defArgs s__law_signs) (defBody s__law_signs) (defScope s__law_signs) .none kV__law_signs dc__law_signs pm__law_signs an__law_signs cd__law_signs ct__law_signs), sl__law_signs⟩)
    (c__law_signs : PySem.W.codeIn K cd__law_signs "_law_signs" = true)
    (k__law_signs : PySem.W.keepIn K (.ref f__law_signs) = true)
    (l_Motion_turning : K.lookup f_Motion_turning = some ⟨oc_Motion_turning, od_Motion_turning, .func (PySem.W.fnOf "turning" "Motion.turning" (defArgs s_Motion_turning) (defBody s_Motion_turning) (defScope s_Motion_turning) (.ref T_Motion_turning) kV_Motion_turning dc_Motion_turning pm_Motion_turning an_Motion_turning cd_Motion_turning ct_Motion_turning), sl_Motion_turning⟩)
    (c_Motion_turning : PySem.W.codeIn K cd_Motion_turning "Motion.turning" = true)
    (k_Motion_turning : PySem.W.keepIn K (.ref f_Motion_turning) = true)
    (lt_Motion_turning : K.lookup T_Motion_turning = some ⟨toc_Motion_turning, tod_Motion_turning, .seq ([.int 1 ttk0_Motion_turning]).toArray tn_Motion_turning, tsl_Motion_turning⟩)
    (l_Motion_at : K.lookup f_Motion_at = some ⟨oc_Motion_at, od_Motion_at, .func (PySem.W.fnOf "at" "Motion.at" (defArgs s_Motion_at) (defBody s_Motion_at) (defScope s_Motion_at) .none kV_Motion_at dc_Motion_at pm_Motion_at an_Motion_at cd_Motion_at ct_Motion_at), sl_Motion_at⟩)
    (c_Motion_at : PySem.W.codeIn K cd_Motion_at "Motion.at" = true)
    (k_Motion_at : PySem.W.keepIn K (.ref f_Motion_at) = true)
    (l_Motion_measure : K.lookup f_Motion_measure = some ⟨oc_Motion_measure, od_Motion_measure, .func (PySem.W.fnOf "measure" "Motion.measure" (defArgs s_Motion_measure) (defBody s_Motion_measure) (defScope s_Motion_measure) .none kV_Motion_measure dc_Motion_measure pm_Motion_measure an_Motion_measure cd_Motion_measure ct_Motion_measure), sl_Motion_measure⟩)
    (c_Motion_measure : PySem.W.codeIn K cd_Motion_measure "Motion.measure" = true)
    (k_Motion_measure : PySem.W.keepIn K (.ref f_Motion_measure) = true)
    (l_Force_about : K.lookup f_Force_about = some ⟨oc_Force_about, od_Force_about, .func (PySem.W.fnOf "about" "Force.about" (defArgs s_Force_about) (defBody s_Force_about) (defScope s_Force_about) .none kV_Force_about dc_Force_about pm_Force_about an_Force_about cd_Force_about ct_Force_about), sl_Force_about⟩)
    (c_Force_about : PySem.W.codeIn K cd_Force_about "Force.about" = true)
    (k_Force_about : PySem.W.keepIn K (.ref f_Force_about) = true)
    (l_Force_acting : K.lookup f_Force_acting = some ⟨oc_Force_acting, od_Force_acting, .func (PySem.W.fnOf "acting" "Force.acting" (defArgs s_Force_acting) (defBody s_Force_acting) (defScope s_Force_acting) .none kV_Force_acting dc_Force_acting pm_Force_acting an_Force_acting cd_Force_acting ct_Force_acting), sl_Force_acting⟩)
    (c_Force_acting : PySem.W.codeIn K cd_Force_acting "Force.acting" = true)
    (k_Force_acting : PySem.W.keepIn K (.ref f_Force_acting) = true)
    (a__law_points : PySem.W.nsIn K mainGlobals "_law_points" = some (some (.ref f__law_points)))
    (l__law_points : K.lookup f__law_points = some ⟨oc__law_points, od__law_points, .func (PySem.W.fnOf "_law_points" "_law_points" (defArgs s__law_points) (defBody s__law_points) (defScope s__law_points) .none kV__law_points dc__law_points pm__law_points an__law_points cd__law_points ct__law_points), sl__law_points⟩)
    (c__law_points : PySem.W.codeIn K cd__law_points "_law_points" = true)
    (k__law_points : PySem.W.keepIn K (.ref f__law_points) = true)
    (a__law_bag : PySem.W.nsIn K mainGlobals "_law_bag" = some (some (.ref f__law_bag)))
    (l__law_bag : K.lookup f__law_bag = some ⟨oc__law_bag, od__law_bag, .func (PySem.W.fnOf "_law_bag" "_law_bag" (defArgs s__law_bag) (defBody s__law_bag) (defScope s__law_bag) .none kV__law_bag dc__law_bag pm__law_bag an__law_bag cd__law_bag ct__law_bag), sl__law_bag⟩)
    (c__law_bag : PySem.W.codeIn K cd__law_bag "_law_bag" = true)
    (k__law_bag : PySem.W.keepIn K (.ref f__law_bag) = true)
    (a_ratio : PySem.W.nsIn K mainGlobals "ratio" = some (some (.ref f_ratio)))
    (l_ratio : K.lookup f_ratio = some ⟨oc_ratio, od_ratio, .func (PySem.W.fnOf "ratio" "ratio" (defArgs s_ratio) (defBody s_ratio) (defScope s_ratio) .none kV_ratio dc_ratio pm_ratio an_ratio cd_ratio ct_ratio), sl_ratio⟩)
    (c_ratio : PySem.W.codeIn K cd_ratio "ratio" = true)
    (k_ratio : PySem.W.keepIn K (.ref f_ratio) = true)
    (l_Motion_measure_of : K.lookup f_Motion_measure_of = some ⟨oc_Motion_measure_of, od_Motion_measure_of, .func (PySem.W.fnOf "measure_of" "Motion.measure_of" (defArgs s_Motion_measure_of) (defBody s_Motion_measure_of) (defScope s_Motion_measure_of) .none kV_Motion_measure_of dc_Motion_measure_of pm_Motion_measure_of an_Motion_measure_of cd_Motion_measure_of ct_Motion_measure_of), sl_Motion_measure_of⟩)
    (c_Motion_measure_of : PySem.W.codeIn K cd_Motion_measure_of "Motion.measure_of" = true)
    (k_Motion_measure_of : PySem.W.keepIn K (.ref f_Motion_measure_of) = true)
    (l_Thrust___init__ : K.lookup f_Thrust___init__ = some ⟨oc_Thrust___init__, od_Thrust___init__, .func (PySem.W.fnOf "__init__" "Thrust.__init__" (defArgs s_Thrust___init__) (defBody s_Thrust___init__) (defScope s_Thrust___init__) (.ref T_Thrust___init__) kV_Thrust___init__ dc_Thrust___init__ pm_Thrust___init__ an_Thrust___init__ cd_Thrust___init__ ct_Thrust___init__), sl_Thrust___init__⟩)
    (c_Thrust___init__ : PySem.W.codeIn K cd_Thrust___init__ "Thrust.__init__" = true)
    (k_Thrust___init__ : PySem.W.keepIn K (.ref f_Thrust___init__) = true)
    (lt_Thrust___init__ : K.lookup T_Thrust___init__ = some ⟨toc_Thrust___init__, tod_Thrust___init__, .seq ([.int 1 ttk0_Thrust___init__]).toArray tn_Thrust___init__, tsl_Thrust___init__⟩)
    (a_law : PySem.W.nsIn K mainGlobals "law" = some (some (.ref f_law)))
    (l_law : K.lookup f_law = some ⟨oc_law, od_law, .func (PySem.W.fnOf "law" "law" (defArgs s_law) (defBody s_law) (defScope s_law) .none kV_law dc_law pm_law an_law cd_law ct_law), sl_law⟩)
    (c_law : PySem.W.codeIn K cd_law "law" = true)
    (k_law : PySem.W.keepIn K (.ref f_law) = true)
    (ac_BridgeError : PySem.W.nsIn K mainGlobals "BridgeError" = some (some (.ref C_BridgeError)))
    (ac_BadRatio : PySem.W.nsIn K mainGlobals "BadRatio" = some (some (.ref C_BadRatio)))
    (ac_BadForce : PySem.W.nsIn K mainGlobals "BadForce" = some (some (.ref C_BadForce)))
    (ac_BadThrust : PySem.W.nsIn K mainGlobals "BadThrust" = some (some (.ref C_BadThrust)))
    (ac_BadMotion : PySem.W.nsIn K mainGlobals "BadMotion" = some (some (.ref C_BadMotion)))
    (ac_BadWeights : PySem.W.nsIn K mainGlobals "BadWeights" = some (some (.ref C_BadWeights)))
    (ac_Motion : PySem.W.nsIn K mainGlobals "Motion" = some (some (.ref C_Motion)))
    (ac_Force : PySem.W.nsIn K mainGlobals "Force" = some (some (.ref C_Force)))
    (ac_Thrust : PySem.W.nsIn K mainGlobals "Thrust" = some (some (.ref C_Thrust)))
    (pg_Motion : PySem.W.plainGet K C_Motion Str.empty = true)
    (hd_Motion : PySem.W.hasDictIn K C_Motion = true)
    (po_Motion : PySem.W.plainOver K C_Motion = true)
    (sa_Motion : PySem.W.findIn K (.ref C_Motion) "__setattr__" = some (some (.builtin "object.__setattr__")))
    (na_Motion_up : PySem.W.findIn K (.ref C_Motion) "up" = some none)
    (na_Motion_across : PySem.W.findIn K (.ref C_Motion) "across" = some none)
    (na_Motion_turn : PySem.W.findIn K (.ref C_Motion) "turn" = some none)
    (pg_Force : PySem.W.plainGet K C_Force Str.empty = true)
    (hd_Force : PySem.W.hasDictIn K C_Force = true)
    (po_Force : PySem.W.plainOver K C_Force = true)
    (sa_Force : PySem.W.findIn K (.ref C_Force) "__setattr__" = some (some (.builtin "object.__setattr__")))
    (na_Force_up : PySem.W.findIn K (.ref C_Force) "up" = some none)
    (na_Force_across : PySem.W.findIn K (.ref C_Force) "across" = some none)
    (na_Force_moment : PySem.W.findIn K (.ref C_Force) "moment" = some none)
    (pg_Thrust : PySem.W.plainGet K C_Thrust Str.empty = true)
    (hd_Thrust : PySem.W.hasDictIn K C_Thrust = true)
    (po_Thrust : PySem.W.plainOver K C_Thrust = true)
    (sa_Thrust : PySem.W.findIn K (.ref C_Thrust) "__setattr__" = some (some (.builtin "object.__setattr__")))
    (na_Thrust_parts : PySem.W.findIn K (.ref C_Thrust) "parts" = some none)
    (na_Thrust_force : PySem.W.findIn K (.ref C_Thrust) "force" = some none)
    (mk_Motion : PySem.W.makesIn K C_Motion = true)
    (fi_Motion : PySem.W.findIn K (.ref C_Motion) "__init__" = some (some (.ref f_Motion___init__)))
    (fn_Motion___init__ : PySem.W.isFn K (.ref f_Motion___init__) = true)
    (kc_Motion : PySem.W.keepIn K (.ref C_Motion) = true)
    (mk_Force : PySem.W.makesIn K C_Force = true)
    (fi_Force : PySem.W.findIn K (.ref C_Force) "__init__" = some (some (.ref f_Force___init__)))
    (fn_Force___init__ : PySem.W.isFn K (.ref f_Force___init__) = true)
    (kc_Force : PySem.W.keepIn K (.ref C_Force) = true)
    (mk_Thrust : PySem.W.makesIn K C_Thrust = true)
    (fi_Thrust : PySem.W.findIn K (.ref C_Thrust) "__init__" = some (some (.ref f_Thrust___init__)))
    (fn_Thrust___init__ : PySem.W.isFn K (.ref f_Thrust___init__) = true)
    (kc_Thrust : PySem.W.keepIn K (.ref C_Thrust) = true)
    (sf_Motion : PySem.W.selfFirst K C_Motion = true)
    (of_Motion___add__ : PySem.W.findIn K (.ref C_Motion) (PySem.dunder (Operator.info .Add).2) = some (some (.ref f_Motion___add__)))
    (fn_Motion___add__ : PySem.W.isFn K (.ref f_Motion___add__) = true)
    (of_Motion___sub__ : PySem.W.findIn K (.ref C_Motion) (PySem.dunder (Operator.info .Sub).2) = some (some (.ref f_Motion___sub__)))
    (fn_Motion___sub__ : PySem.W.isFn K (.ref f_Motion___sub__) = true)
    (of_Motion___mul__ : PySem.W.findIn K (.ref C_Motion) (PySem.dunder (Operator.info .Mult).2) = some (some (.ref f_Motion___mul__)))
    (fn_Motion___mul__ : PySem.W.isFn K (.ref f_Motion___mul__) = true)
    (or_Motion___mul__ : PySem.W.findIn K (.ref C_Motion) (dunderR (Operator.info .Mult).2) = some none)
    (o1_Motion___mul__ : PySem.W.findIn K (.type "int") (PySem.dunder (Operator.info .Mult).2) = some fo_Motion___mul__)
    (o2_Motion___mul__ : PySem.W.findIn K (.type "int") (dunderR (Operator.info .Mult).2) = some ro_Motion___mul__)
    (o3_Motion___mul__ : PySem.W.subIn K (.type "int") (.ref C_Motion) = some false)
    (of_Motion___neg__ : PySem.W.findIn K (.ref C_Motion) "__neg__" = some (some (.ref f_Motion___neg__)))
    (fn_Motion___neg__ : PySem.W.isFn K (.ref f_Motion___neg__) = true)
    (of_Motion___eq__ : PySem.W.findIn K (.ref C_Motion) "__eq__" = some (some (.ref f_Motion___eq__)))
    (fn_Motion___eq__ : PySem.W.isFn K (.ref f_Motion___eq__) = true)
    (nq_Motion_NoneType : PySem.W.notFirst K C_Motion (.type "NoneType") = true)
    (nq_Motion_bool : PySem.W.notFirst K C_Motion (.type "bool") = true)
    (nq_Motion_int : PySem.W.notFirst K C_Motion (.type "int") = true)
    (nq_Motion_str : PySem.W.notFirst K C_Motion (.type "str") = true)
    (nq_Motion_list : PySem.W.notFirst K C_Motion (.type "list") = true)
    (nq_Motion_tuple : PySem.W.notFirst K C_Motion (.type "tuple") = true)
    (nq_Motion_Motion : PySem.W.notFirst K C_Motion (.ref C_Motion) = true)
    (nq_Motion_Force : PySem.W.notFirst K C_Motion (.ref C_Force) = true)
    (nq_Motion_Thrust : PySem.W.notFirst K C_Motion (.ref C_Thrust) = true)
    (pf_Motion_is_none : PySem.W.findIn K (.ref C_Motion) "is_none" = some (some (.ref P_Motion_is_none)))
    (pp_Motion_is_none : PySem.W.specialIn K (.ref P_Motion_is_none) "__get__" = some (some (.builtin "property.__get__")))
    (pt_Motion_is_none : PySem.W.takesIn K (.ref P_Motion_is_none) = some true)
    (pr_Motion_is_none : PySem.W.recIn K P_Motion_is_none "property" = some (.ref f_Motion_is_none :: re_Motion_is_none))
    (cr_Motion_none : PySem.W.readsIn K C_Motion (.type "type") = true)
    (cg_Motion_none : PySem.W.specialIn K (.ref C_Motion) "__getattribute__" = some (some (.builtin "type.__getattribute__")))
    (cf_Motion_none : PySem.W.findCls K (.ref C_Motion) (.type "type") "none" = some (.get (.builtin "classmethod.__get__") (.ref P_Motion_none) .none (.ref C_Motion)))
    (cc_Motion_none : PySem.W.recIn K P_Motion_none "classmethod" = some (.ref f_Motion_none :: re_Motion_none))
    (ci_Motion_none : PySem.W.fnIn K f_Motion_none = true)
    (cr_Motion_turning : PySem.W.readsIn K C_Motion (.type "type") = true)
    (cg_Motion_turning : PySem.W.specialIn K (.ref C_Motion) "__getattribute__" = some (some (.builtin "type.__getattribute__")))
    (cf_Motion_turning : PySem.W.findCls K (.ref C_Motion) (.type "type") "turning" = some (.get (.builtin "classmethod.__get__") (.ref P_Motion_turning) .none (.ref C_Motion)))
    (cc_Motion_turning : PySem.W.recIn K P_Motion_turning "classmethod" = some (.ref f_Motion_turning :: re_Motion_turning))
    (ci_Motion_turning : PySem.W.fnIn K f_Motion_turning = true)
    (cr_Force_acting : PySem.W.readsIn K C_Force (.type "type") = true)
    (cg_Force_acting : PySem.W.specialIn K (.ref C_Force) "__getattribute__" = some (some (.builtin "type.__getattribute__")))
    (cf_Force_acting : PySem.W.findCls K (.ref C_Force) (.type "type") "acting" = some (.get (.builtin "classmethod.__get__") (.ref P_Force_acting) .none (.ref C_Force)))
    (cc_Force_acting : PySem.W.recIn K P_Force_acting "classmethod" = some (.ref f_Force_acting :: re_Force_acting))
    (ci_Force_acting : PySem.W.fnIn K f_Force_acting = true)
    (mf_Motion_at : PySem.W.findIn K (.ref C_Motion) "at" = some (some (.ref f_Motion_at)))
    (fn_Motion_at : PySem.W.isFn K (.ref f_Motion_at) = true)
    (mf_Motion_measure : PySem.W.findIn K (.ref C_Motion) "measure" = some (some (.ref f_Motion_measure)))
    (fn_Motion_measure : PySem.W.isFn K (.ref f_Motion_measure) = true)
    (mf_Force_about : PySem.W.findIn K (.ref C_Force) "about" = some (some (.ref f_Force_about)))
    (fn_Force_about : PySem.W.isFn K (.ref f_Force_about) = true)
    (mf_Motion_measure_of : PySem.W.findIn K (.ref C_Motion) "measure_of" = some (some (.ref f_Motion_measure_of)))
    (fn_Motion_measure_of : PySem.W.isFn K (.ref f_Motion_measure_of) = true)
    (x1_BadRatio : K.lookup C_BadRatio = some (excClassObj nm_BadRatio qn_BadRatio C_BadRatio N_BadRatio bs_BadRatio bm_BadRatio true sn_BadRatio sub_BadRatio ab_BadRatio col_BadRatio dd_BadRatio k0_BadRatio k1_BadRatio k2_BadRatio k3_BadRatio k5_BadRatio "ValueError.__new__"))
    (x2_BadRatio : PySem.HandSPX.refsVE bm_BadRatio = true)
    (x3_BadRatio : PySem.W.findIn K (.ref C_BadRatio) "__setattr__" = some (some (.builtin "object.__setattr__")))
    (x4_BadRatio : PySem.W.subIn K (.ref C_BadRatio) (.type "BaseException") = some true)
    (x5_BadRatio : PySem.W.typeIn K (.ref C_BadRatio) = some (.type "type"))
    (x6_BadRatio : PySem.W.keepIn K (.ref C_BadRatio) = true)
    (x7_BadRatio : PySem.W.findIn K (.ref C_BadRatio) "__init__" = some (some (.ref I_BadRatio)))
    (x8_BadRatio : PySem.W.typeIn K (.ref I_BadRatio) = some (.type "function"))
    (li_BadRatio : K.lookup I_BadRatio = some ⟨oci_BadRatio, odi_BadRatio, .func (PySem.W.fnOf "__init__" "BadRatio.__init__" (defArgs si_BadRatio) (defBody si_BadRatio) (defScope si_BadRatio) .none kVi_BadRatio dci_BadRatio pmi_BadRatio ani_BadRatio cdi_BadRatio cti_BadRatio), sli_BadRatio⟩)
    (cdi_BadRatio_ : PySem.W.codeIn K cdi_BadRatio "BadRatio.__init__" = true)
    (ki_BadRatio : PySem.W.keepIn K (.ref I_BadRatio) = true)
    (x1_BadForce : K.lookup C_BadForce = some (excClassObj nm_BadForce qn_BadForce C_BadForce N_BadForce bs_BadForce bm_BadForce true sn_BadForce sub_BadForce ab_BadForce col_BadForce dd_BadForce k0_BadForce k1_BadForce k2_BadForce k3_BadForce k5_BadForce "ValueError.__new__"))
    (x2_BadForce : PySem.HandSPX.refsVE bm_BadForce = true)
    (x3_BadForce : PySem.W.findIn K (.ref C_BadForce) "__setattr__" = some (some (.builtin "object.__setattr__")))
    (x4_BadForce : PySem.W.subIn K (.ref C_BadForce) (.type "BaseException") = some true)
    (x5_BadForce : PySem.W.typeIn K (.ref C_BadForce) = some (.type "type"))
    (x6_BadForce : PySem.W.keepIn K (.ref C_BadForce) = true)
    (x7_BadForce : PySem.W.findIn K (.ref C_BadForce) "__init__" = some (some (.ref I_BadForce)))
    (x8_BadForce : PySem.W.typeIn K (.ref I_BadForce) = some (.type "function"))
    (li_BadForce : K.lookup I_BadForce = some ⟨oci_BadForce, odi_BadForce, .func (PySem.W.fnOf "__init__" "BadForce.__init__" (defArgs si_BadForce) (defBody si_BadForce) (defScope si_BadForce) .none kVi_BadForce dci_BadForce pmi_BadForce ani_BadForce cdi_BadForce cti_BadForce), sli_BadForce⟩)
    (cdi_BadForce_ : PySem.W.codeIn K cdi_BadForce "BadForce.__init__" = true)
    (ki_BadForce : PySem.W.keepIn K (.ref I_BadForce) = true)
    (xn_BadForce_what : PySem.W.findIn K (.ref C_BadForce) "what" = some none)
    (x1_BadThrust : K.lookup C_BadThrust = some (excClassObj nm_BadThrust qn_BadThrust C_BadThrust N_BadThrust bs_BadThrust bm_BadThrust true sn_BadThrust sub_BadThrust ab_BadThrust col_BadThrust dd_BadThrust k0_BadThrust k1_BadThrust k2_BadThrust k3_BadThrust k5_BadThrust "ValueError.__new__"))
    (x2_BadThrust : PySem.HandSPX.refsVE bm_BadThrust = true)
    (x3_BadThrust : PySem.W.findIn K (.ref C_BadThrust) "__setattr__" = some (some (.builtin "object.__setattr__")))
    (x4_BadThrust : PySem.W.subIn K (.ref C_BadThrust) (.type "BaseException") = some true)
    (x5_BadThrust : PySem.W.typeIn K (.ref C_BadThrust) = some (.type "type"))
    (x6_BadThrust : PySem.W.keepIn K (.ref C_BadThrust) = true)
    (x7_BadThrust : PySem.W.findIn K (.ref C_BadThrust) "__init__" = some (some (.ref I_BadThrust)))
    (x8_BadThrust : PySem.W.typeIn K (.ref I_BadThrust) = some (.type "function"))
    (li_BadThrust : K.lookup I_BadThrust = some ⟨oci_BadThrust, odi_BadThrust, .func (PySem.W.fnOf "__init__" "BadThrust.__init__" (defArgs si_BadThrust) (defBody si_BadThrust) (defScope si_BadThrust) .none kVi_BadThrust dci_BadThrust pmi_BadThrust ani_BadThrust cdi_BadThrust cti_BadThrust), sli_BadThrust⟩)
    (cdi_BadThrust_ : PySem.W.codeIn K cdi_BadThrust "BadThrust.__init__" = true)
    (ki_BadThrust : PySem.W.keepIn K (.ref I_BadThrust) = true)
    (x1_BadMotion : K.lookup C_BadMotion = some (excClassObj nm_BadMotion qn_BadMotion C_BadMotion N_BadMotion bs_BadMotion bm_BadMotion true sn_BadMotion sub_BadMotion ab_BadMotion col_BadMotion dd_BadMotion k0_BadMotion k1_BadMotion k2_BadMotion k3_BadMotion k5_BadMotion "ValueError.__new__"))
    (x2_BadMotion : PySem.HandSPX.refsVE bm_BadMotion = true)
    (x3_BadMotion : PySem.W.findIn K (.ref C_BadMotion) "__setattr__" = some (some (.builtin "object.__setattr__")))
    (x4_BadMotion : PySem.W.subIn K (.ref C_BadMotion) (.type "BaseException") = some true)
    (x5_BadMotion : PySem.W.typeIn K (.ref C_BadMotion) = some (.type "type"))
    (x6_BadMotion : PySem.W.keepIn K (.ref C_BadMotion) = true)
    (x7_BadMotion : PySem.W.findIn K (.ref C_BadMotion) "__init__" = some (some (.ref I_BadMotion)))
    (x8_BadMotion : PySem.W.typeIn K (.ref I_BadMotion) = some (.type "function"))
    (li_BadMotion : K.lookup I_BadMotion = some ⟨oci_BadMotion, odi_BadMotion, .func (PySem.W.fnOf "__init__" "BadMotion.__init__" (defArgs si_BadMotion) (defBody si_BadMotion) (defScope si_BadMotion) .none kVi_BadMotion dci_BadMotion pmi_BadMotion ani_BadMotion cdi_BadMotion cti_BadMotion), sli_BadMotion⟩)
    (cdi_BadMotion_ : PySem.W.codeIn K cdi_BadMotion "BadMotion.__init__" = true)
    (ki_BadMotion : PySem.W.keepIn K (.ref I_BadMotion) = true)
    (e1_BridgeError : PySem.W.subIn K (.ref C_BridgeError) (.type "BaseException") = some true)
    (e2_BridgeError : PySem.W.hasDictIn K C_BridgeError = true)
    (e3_BridgeError : PySem.W.typeIn K (.ref C_BridgeError) = some (.type "type"))
    (es_BadRatio_BridgeError : PySem.W.subIn K (.ref C_BadRatio) (.ref C_BridgeError) = some true)
    (es_BadForce_BridgeError : PySem.W.subIn K (.ref C_BadForce) (.ref C_BridgeError) = some true)
    (es_BadThrust_BridgeError : PySem.W.subIn K (.ref C_BadThrust) (.ref C_BridgeError) = some true)
    (es_BadMotion_BridgeError : PySem.W.subIn K (.ref C_BadMotion) (.ref C_BridgeError) = some true)
    (y1_BadForce : PySem.W.findIn K (.ref C_BadForce) "__getattribute__" = some (some (.builtin "BaseException.__getattribute__")))
    (y2_BadForce : PySem.W.findIn K (.ref C_BadForce) "__getattr__" = some none)
    (y3_BadForce : PySem.W.subIn K (.ref C_BadForce) (.type "BaseException") = some true)
    (y4_BadForce : PySem.W.hasDictIn K C_BadForce = true)
    (y5_BadForce : PySem.W.findIn K (.ref C_BadForce) "__class__" = some (some (.builtin "object.__class__")))
    (y6_BadForce : PySem.W.specialIn K (.builtin "object.__class__") "__get__" = some (some (.builtin "getset_descriptor.__get__")))
    (y7_BadForce : PySem.W.takesIn K (.builtin "object.__class__") = some true)
    (y8_BadForce : PySem.W.mroIn K C_BadForce (.type "object") = some true)
    (y1_BadMotion : PySem.W.findIn K (.ref C_BadMotion) "__getattribute__" = some (some (.builtin "BaseException.__getattribute__")))
    (y2_BadMotion : PySem.W.findIn K (.ref C_BadMotion) "__getattr__" = some none)
    (y3_BadMotion : PySem.W.subIn K (.ref C_BadMotion) (.type "BaseException") = some true)
    (y4_BadMotion : PySem.W.hasDictIn K C_BadMotion = true)
    (y5_BadMotion : PySem.W.findIn K (.ref C_BadMotion) "__class__" = some (some (.builtin "object.__class__")))
    (y6_BadMotion : PySem.W.specialIn K (.builtin "object.__class__") "__get__" = some (some (.builtin "getset_descriptor.__get__")))
    (y7_BadMotion : PySem.W.takesIn K (.builtin "object.__class__") = some true)
    (y8_BadMotion : PySem.W.mroIn K C_BadMotion (.type "object") = some true)
    (y1_BadRatio : PySem.W.findIn K (.ref C_BadRatio) "__getattribute__" = some (some (.builtin "BaseException.__getattribute__")))
    (y2_BadRatio : PySem.W.findIn K (.ref C_BadRatio) "__getattr__" = some none)
    (y3_BadRatio : PySem.W.subIn K (.ref C_BadRatio) (.type "BaseException") = some true)
    (y4_BadRatio : PySem.W.hasDictIn K C_BadRatio = true)
    (y5_BadRatio : PySem.W.findIn K (.ref C_BadRatio) "__class__" = some (some (.builtin "object.__class__")))
    (y6_BadRatio : PySem.W.specialIn K (.builtin "object.__class__") "__get__" = some (some (.builtin "getset_descriptor.__get__")))
    (y7_BadRatio : PySem.W.takesIn K (.builtin "object.__class__") = some true)
    (y8_BadRatio : PySem.W.mroIn K C_BadRatio (.type "object") = some true)
    (y1_BadThrust : PySem.W.findIn K (.ref C_BadThrust) "__getattribute__" = some (some (.builtin "BaseException.__getattribute__")))
    (y2_BadThrust : PySem.W.findIn K (.ref C_BadThrust) "__getattr__" = some none)
    (y3_BadThrust : PySem.W.subIn K (.ref C_BadThrust) (.type "BaseException") = some true)
    (y4_BadThrust : PySem.W.hasDictIn K C_BadThrust = true)
    (y5_BadThrust : PySem.W.findIn K (.ref C_BadThrust) "__class__" = some (some (.builtin "object.__class__")))
    (y6_BadThrust : PySem.W.specialIn K (.builtin "object.__class__") "__get__" = some (some (.builtin "getset_descriptor.__get__")))
    (y7_BadThrust : PySem.W.takesIn K (.builtin "object.__class__") = some true)
    (y8_BadThrust : PySem.W.mroIn K C_BadThrust (.type "object") = some true)
    (hq_BadMotion : PySem.W.hasDictIn K C_BadMotion = true)
    (hty_BadMotion : PySem.W.typeIn K (.ref C_BadMotion) = some (.type "type"))
    (sb_BadForce_BadMotion : PySem.W.subIn K (.ref C_BadForce) (.ref C_BadMotion) = some false)
    (ne_BadForce_BadMotion : C_BadForce ≠ C_BadMotion)
    (hq_BadWeights : PySem.W.hasDictIn K C_BadWeights = true)
    (hty_BadWeights : PySem.W.typeIn K (.ref C_BadWeights) = some (.type "type"))
    (sb_BadForce_BadWeights : PySem.W.subIn K (.ref C_BadForce) (.ref C_BadWeights) = some false)
    (ne_BadForce_BadWeights : C_BadForce ≠ C_BadWeights)
    (sb_BadForce_ValueError : PySem.W.subIn K (.ref C_BadForce) (.type "ValueError") = some true)
    (sb_BadMotion_BadWeights : PySem.W.subIn K (.ref C_BadMotion) (.ref C_BadWeights) = some false)
    (ne_BadMotion_BadWeights : C_BadMotion ≠ C_BadWeights)
    (sb_BadMotion_ValueError : PySem.W.subIn K (.ref C_BadMotion) (.type "ValueError") = some true)
    (sb_BadRatio_BadMotion : PySem.W.subIn K (.ref C_BadRatio) (.ref C_BadMotion) = some false)
    (ne_BadRatio_BadMotion : C_BadRatio ≠ C_BadMotion)
    (sb_BadRatio_BadWeights : PySem.W.subIn K (.ref C_BadRatio) (.ref C_BadWeights) = some false)
    (ne_BadRatio_BadWeights : C_BadRatio ≠ C_BadWeights)
    (sb_BadRatio_ValueError : PySem.W.subIn K (.ref C_BadRatio) (.type "ValueError") = some true)
    (sb_BadThrust_BadMotion : PySem.W.subIn K (.ref C_BadThrust) (.ref C_BadMotion) = some false)
    (ne_BadThrust_BadMotion : C_BadThrust ≠ C_BadMotion)
    (sb_BadThrust_BadWeights : PySem.W.subIn K (.ref C_BadThrust) (.ref C_BadWeights) = some false)
    (ne_BadThrust_BadWeights : C_BadThrust ≠ C_BadWeights)
    (sb_BadThrust_ValueError : PySem.W.subIn K (.ref C_BadThrust) (.type "ValueError") = some true)
    (hq_Motion : PySem.W.hasDictIn K C_Motion = true)
    (hty_Motion : PySem.W.typeIn K (.ref C_Motion) = some (.type "type"))
    (sb_Force_Motion : PySem.W.subIn K (.ref C_Force) (.ref C_Motion) = some false)
    (ne_Force_Motion : C_Force ≠ C_Motion)
    (sb_Force_bool : PySem.W.subIn K (.ref C_Force) (.type "bool") = some false)
    (sb_Force_int : PySem.W.subIn K (.ref C_Force) (.type "int") = some false)
    (sb_Force_tuple : PySem.W.subIn K (.ref C_Force) (.type "tuple") = some false)
    (hq_Force : PySem.W.hasDictIn K C_Force = true)
    (hty_Force : PySem.W.typeIn K (.ref C_Force) = some (.type "type"))
    (sb_Motion_Force : PySem.W.subIn K (.ref C_Motion) (.ref C_Force) = some false)
    (ne_Motion_Force : C_Motion ≠ C_Force)
    (sb_Motion_bool : PySem.W.subIn K (.ref C_Motion) (.type "bool") = some false)
    (sb_Motion_int : PySem.W.subIn K (.ref C_Motion) (.type "int") = some false)
    (sb_Motion_tuple : PySem.W.subIn K (.ref C_Motion) (.type "tuple") = some false)
    (sb_NoneType_Force : PySem.W.subIn K (.type "NoneType") (.ref C_Force) = some false)
    (sb_NoneType_Motion : PySem.W.subIn K (.type "NoneType") (.ref C_Motion) = some false)
    (sb_Thrust_Force : PySem.W.subIn K (.ref C_Thrust) (.ref C_Force) = some false)
    (ne_Thrust_Force : C_Thrust ≠ C_Force)
    (sb_Thrust_Motion : PySem.W.subIn K (.ref C_Thrust) (.ref C_Motion) = some false)
    (ne_Thrust_Motion : C_Thrust ≠ C_Motion)
    (sb_Thrust_bool : PySem.W.subIn K (.ref C_Thrust) (.type "bool") = some false)
    (sb_Thrust_int : PySem.W.subIn K (.ref C_Thrust) (.type "int") = some false)
    (sb_Thrust_tuple : PySem.W.subIn K (.ref C_Thrust) (.type "tuple") = some false)
    (sb_bool_Force : PySem.W.subIn K (.type "bool") (.ref C_Force) = some false)
    (sb_bool_Motion : PySem.W.subIn K (.type "bool") (.ref C_Motion) = some false)
    (sb_int_Force : PySem.W.subIn K (.type "int") (.ref C_Force) = some false)
    (sb_int_Motion : PySem.W.subIn K (.type "int") (.ref C_Motion) = some false)
    (sb_list_Force : PySem.W.subIn K (.type "list") (.ref C_Force) = some false)
    (sb_list_Motion : PySem.W.subIn K (.type "list") (.ref C_Motion) = some false)
    (sb_str_Force : PySem.W.subIn K (.type "str") (.ref C_Force) = some false)
    (sb_str_Motion : PySem.W.subIn K (.type "str") (.ref C_Motion) = some false)
    (sb_tuple_Force : PySem.W.subIn K (.type "tuple") (.ref C_Force) = some false)
    (sb_tuple_Motion : PySem.W.subIn K (.type "tuple") (.ref C_Motion) = some false)
    (y5_Force : PySem.W.findIn K (.ref C_Force) "__class__" = some (some (.builtin "object.__class__")))
    (y6_Force : PySem.W.specialIn K (.builtin "object.__class__") "__get__" = some (some (.builtin "getset_descriptor.__get__")))
    (y7_Force : PySem.W.takesIn K (.builtin "object.__class__") = some true)
    (y8_Force : PySem.W.mroIn K C_Force (.type "object") = some true)
    (y5_Motion : PySem.W.findIn K (.ref C_Motion) "__class__" = some (some (.builtin "object.__class__")))
    (y6_Motion : PySem.W.specialIn K (.builtin "object.__class__") "__get__" = some (some (.builtin "getset_descriptor.__get__")))
    (y7_Motion : PySem.W.takesIn K (.builtin "object.__class__") = some true)
    (y8_Motion : PySem.W.mroIn K C_Motion (.type "object") = some true)
    (y5_Thrust : PySem.W.findIn K (.ref C_Thrust) "__class__" = some (some (.builtin "object.__class__")))
    (y6_Thrust : PySem.W.specialIn K (.builtin "object.__class__") "__get__" = some (some (.builtin "getset_descriptor.__get__")))
    (y7_Thrust : PySem.W.takesIn K (.builtin "object.__class__") = some true)
    (y8_Thrust : PySem.W.mroIn K C_Thrust (.type "object") = some true)
    (z_ValueError : PySem.W.nsIn K mainGlobals "ValueError" = some none)
    (z_abs : PySem.W.nsIn K mainGlobals "abs" = some none)
    (z_bool : PySem.W.nsIn K mainGlobals "bool" = some none)
    (z_enumerate : PySem.W.nsIn K mainGlobals "enumerate" = some none)
    (z_int : PySem.W.nsIn K mainGlobals "int" = some none)
    (z_isinstance : PySem.W.nsIn K mainGlobals "isinstance" = some none)
    (z_len : PySem.W.nsIn K mainGlobals "len" = some none)
    (z_list : PySem.W.nsIn K mainGlobals "list" = some none)
    (z_tuple : PySem.W.nsIn K mainGlobals "tuple" = some none)
    (zi_gcd : PySem.W.nsIn K mainGlobals "gcd" = some (some (.builtin "math.gcd"))) :
    ∃ fd : FuncData, (∀ (s : Shared) (v : Value), BindsTo s fd ⟨[v], []⟩ [("_law_script", v)]) ∧ ∀ base : Heap, K.In base → base.Ns mainGlobals mg → FnOk l.prog w K mg base (L2.CX l.prog w) 7 fa fd ["_law_script"] (spLaw K) := by
  have e : fa = f_law := by
    have z := hfa.symm.trans (PySem.W.mg_of X G a_law)
    cases z
    rfl
  rw [e]
  have T : Txt K mg ⟨f__law_take, (PySem.W.fnOf "_law_take" "_law_take" (defArgs s__law_take) (defBody s__law_take) (defScope s__law_take) .none kV__law_take dc__law_take pm__law_take an__law_take cd__law_take ct__law_take), f__law_of, (PySem.W.fnOf "_law_of" "_law_of" (defArgs s__law_of) (defBody s__law_of) (defScope s__law_of) .none kV__law_of dc__law_of pm__law_of an__law_of cd__law_of ct__law_of), f__law_number, (PySem.W.fnOf "_law_number" "_law_number" (defArgs s__law_number) (defBody s__law_number) (defScope s__law_number) .none kV__law_number dc__law_number pm__law_number an__law_number cd__law_number ct__law_number), f__law_gcd, (PySem.W.fnOf "_law_gcd" "_law_gcd" (defArgs s__law_gcd) (defBody s__law_gcd) (defScope s__law_gcd) .none kV__law_gcd dc__law_gcd pm__law_gcd an__law_gcd cd__law_gcd ct__law_gcd), f__law_ratio, (PySem.W.fnOf "_law_ratio" "_law_ratio" (defArgs s__law_ratio) (defBody s__law_ratio) (defScope s__law_ratio) .none kV__law_ratio dc__law_ratio pm__law_ratio an__law_ratio cd__law_ratio ct__law_ratio), f__law_three, (PySem.W.fnOf "_law_three" "_law_three" (defArgs s__law_three) (defBody s__law_three) (defScope s__law_three) .none kV__law_three dc__law_three pm__law_three an__law_three cd__law_three ct__law_three), f__law_flag, (PySem.W.fnOf "_law_flag" "_law_flag" (defArgs s__law_flag) (defBody s__law_flag) (defScope s__law_flag) .none kV__law_flag dc__law_flag pm__law_flag an__law_flag cd__law_flag ct__law_flag), f__law_is, (PySem.W.fnOf "_law_is" "_law_is" (defArgs s__law_is) (defBody s__law_is) (defScope s__law_is) .none kV__law_is dc__law_is pm__law_is an__law_is cd__law_is ct__law_is), f_is_number, (PySem.W.fnOf "is_number" "is_number" (defArgs s_is_number) (defBody s_is_number) (defScope s_is_number) .none kV_is_number dc_is_number pm_is_number an_is_number cd_is_number ct_is_number), f_Motion___init__, (PySem.W.fnOf "__init__" "Motion.__init__" (defArgs s_Motion___init__) (defBody s_Motion___init__) (defScope s_Motion___init__) .none kV_Motion___init__ dc_Motion___init__ pm_Motion___init__ an_Motion___init__ cd_Motion___init__ ct_Motion___init__), f__law_refused, (PySem.W.fnOf "_law_refused" "_law_refused" (defArgs s__law_refused) (defBody s__law_refused) (defScope s__law_refused) .none kV__law_refused dc__law_refused pm__law_refused an__law_refused cd__law_refused ct__law_refused), f__law_number_is, (PySem.W.fnOf "_law_number_is" "_law_number_is" (defArgs s__law_number_is) (defBody s__law_number_is) (defScope s__law_number_is) .none kV__law_number_is dc__law_number_is pm__law_number_is an__law_number_is cd__law_number_is ct__law_number_is), f_Motion___add__, (PySem.W.fnOf "__add__" "Motion.__add__" (defArgs s_Motion___add__) (defBody s_Motion___add__) (defScope s_Motion___add__) .none kV_Motion___add__ dc_Motion___add__ pm_Motion___add__ an_Motion___add__ cd_Motion___add__ ct_Motion___add__), f_Motion___sub__, (PySem.W.fnOf "__sub__" "Motion.__sub__" (defArgs s_Motion___sub__) (defBody s_Motion___sub__) (defScope s_Motion___sub__) .none kV_Motion___sub__ dc_Motion___sub__ pm_Motion___sub__ an_Motion___sub__ cd_Motion___sub__ ct_Motion___sub__), f_Motion___neg__, (PySem.W.fnOf "__neg__" "Motion.__neg__" (defArgs s_Motion___neg__) (defBody s_Motion___neg__) (defScope s_Motion___neg__) .none kV_Motion___neg__ dc_Motion___neg__ pm_Motion___neg__ an_Motion___neg__ cd_Motion___neg__ ct_Motion___neg__), f_Motion___mul__, (PySem.W.fnOf "__mul__" "Motion.__mul__" (defArgs s_Motion___mul__) (defBody s_Motion___mul__) (defScope s_Motion___mul__) .none kV_Motion___mul__ dc_Motion___mul__ pm_Motion___mul__ an_Motion___mul__ cd_Motion___mul__ ct_Motion___mul__), f_Motion___eq__, (PySem.W.fnOf "__eq__" "Motion.__eq__" (defArgs s_Motion___eq__) (defBody s_Motion___eq__) (defScope s_Motion___eq__) .none kV_Motion___eq__ dc_Motion___eq__ pm_Motion___eq__ an_Motion___eq__ cd_Motion___eq__ ct_Motion___eq__), f_Force___init__, (PySem.W.fnOf "__init__" "Force.__init__" (defArgs s_Force___init__) (defBody s_Force___init__) (defScope s_Force___init__) .none kV_Force___init__ dc_Force___init__ pm_Force___init__ an_Force___init__ cd_Force___init__ ct_Force___init__), f_Motion_is_none, (PySem.W.fnOf "is_none" "Motion.is_none" (defArgs s_Motion_is_none) (defBody s_Motion_is_none) (defScope s_Motion_is_none) .none kV_Motion_is_none dc_Motion_is_none pm_Motion_is_none an_Motion_is_none cd_Motion_is_none ct_Motion_is_none), P_Motion_is_none, f_Motion_none, (PySem.W.fnOf "none" "Motion.none" (defArgs s_Motion_none) (defBody s_Motion_none) (defScope s_Motion_none) .none kV_Motion_none dc_Motion_none pm_Motion_none an_Motion_none cd_Motion_none ct_Motion_none), P_Motion_none, (.type "type"), f__law_signs, (PySem.W.fnOf "_law_signs" "_law_signs" (defArgs s__law_signs) (defBody s__law_signs) (defScope s__law_signs) .none kV__law_signs dc__law_signs pm__law_signs an__law_signs cd__law_signs ct__law_signs), f_Motion_turning, (PySem.W.fnOf "turning" "Motion.turning" (defArgs s_Motion_turning) (defBody s_Motion_turning) (defScope s_Motion_turning) (.ref T_Motion_turning) kV_Motion_turning dc_Motion_turning pm_Motion_turning an_Motion_turning cd_Motion_turning ct_Motion_turning), P_Motion_turning, (.type "type"), f_Motion_at, (PySem.W.fnOf "at" "Motion.at" (defArgs s_Motion_at) (defBody s_Motion_at) (defScope s_Motion_at) .none kV_Motion_at dc_Motion_at pm_Motion_at an_Motion_at cd_Motion_at ct_Motion_at), f_Motion_measure, (PySem.W.fnOf "measure" "Motion.measure" (defArgs s_Motion_measure) (defBody s_Motion_measure) (defScope s_Motion_measure) .none kV_Motion_measure dc_Motion_measure pm_Motion_measure an_Motion_measure cd_Motion_measure ct_Motion_measure), f_Force_about, (PySem.W.fnOf "about" "Force.about" (defArgs s_Force_about) (defBody s_Force_about) (defScope s_Force_about) .none kV_Force_about dc_Force_about pm_Force_about an_Force_about cd_Force_about ct_Force_about), f_Force_acting, (PySem.W.fnOf "acting" "Force.acting" (defArgs s_Force_acting) (defBody s_Force_acting) (defScope s_Force_acting) .none kV_Force_acting dc_Force_acting pm_Force_acting an_Force_acting cd_Force_acting ct_Force_acting), P_Force_acting, (.type "type"), f__law_points, (PySem.W.fnOf "_law_points" "_law_points" (defArgs s__law_points) (defBody s__law_points) (defScope s__law_points) .none kV__law_points dc__law_points pm__law_points an__law_points cd__law_points ct__law_points), f__law_bag, (PySem.W.fnOf "_law_bag" "_law_bag" (defArgs s__law_bag) (defBody s__law_bag) (defScope s__law_bag) .none kV__law_bag dc__law_bag pm__law_bag an__law_bag cd__law_bag ct__law_bag), f_ratio, (PySem.W.fnOf "ratio" "ratio" (defArgs s_ratio) (defBody s_ratio) (defScope s_ratio) .none kV_ratio dc_ratio pm_ratio an_ratio cd_ratio ct_ratio), f_Motion_measure_of, (PySem.W.fnOf "measure_of" "Motion.measure_of" (defArgs s_Motion_measure_of) (defBody s_Motion_measure_of) (defScope s_Motion_measure_of) .none kV_Motion_measure_of dc_Motion_measure_of pm_Motion_measure_of an_Motion_measure_of cd_Motion_measure_of ct_Motion_measure_of), f_Thrust___init__, (PySem.W.fnOf "__init__" "Thrust.__init__" (defArgs s_Thrust___init__) (defBody s_Thrust___init__) (defScope s_Thrust___init__) (.ref T_Thrust___init__) kV_Thrust___init__ dc_Thrust___init__ pm_Thrust___init__ an_Thrust___init__ cd_Thrust___init__ ct_Thrust___init__), f_law, (PySem.W.fnOf "law" "law" (defArgs s_law) (defBody s_law) (defScope s_law) .none kV_law dc_law pm_law an_law cd_law ct_law), C_BridgeError, C_BadRatio, I_BadRatio, (PySem.W.fnOf "__init__" "BadRatio.__init__" (defArgs si_BadRatio) (defBody si_BadRatio) (defScope si_BadRatio) .none kVi_BadRatio dci_BadRatio pmi_BadRatio ani_BadRatio cdi_BadRatio cti_BadRatio), C_BadForce, I_BadForce, (PySem.W.fnOf "__init__" "BadForce.__init__" (defArgs si_BadForce) (defBody si_BadForce) (defScope si_BadForce) .none kVi_BadForce dci_BadForce pmi_BadForce ani_BadForce cdi_BadForce cti_BadForce), C_BadThrust, I_BadThrust, (PySem.W.fnOf "__init__" "BadThrust.__init__" (defArgs si_BadThrust) (defBody si_BadThrust) (defScope si_BadThrust) .none kVi_BadThrust dci_BadThrust pmi_BadThrust ani_BadThrust cdi_BadThrust cti_BadThrust), C_BadMotion, I_BadMotion, (PySem.W.fnOf "__init__" "BadMotion.__init__" (defArgs si_BadMotion) (defBody si_BadMotion) (defScope si_BadMotion) .none kVi_BadMotion dci_BadMotion pmi_BadMotion ani_BadMotion cdi_BadMotion cti_BadMotion), C_BadWeights, C_Motion, C_Force, C_Thrust⟩ := {
    t__law_take := fund_mk l__law_take c__law_take k__law_take
    m__law_take := PySem.W.mg_of X G a__law_take
    b__law_take := (fund_mk l__law_take c__law_take k__law_take).bindsN (ps := ["_law_bag_here", "_law_many"]) fun _ _ _ _ _ _ us hl => match us, hl with | [_, _], _ => rfl
    t__law_of := fund_mk l__law_of c__law_of k__law_of
    m__law_of := PySem.W.mg_of X G a__law_of
    b__law_of := (fund_mk l__law_of c__law_of k__law_of).bindsN (ps := ["_law_bag_here", "_law_some"]) fun _ _ _ _ _ _ us hl => match us, hl with | [_, _], _ => rfl
    t__law_number := fund_mk l__law_number c__law_number k__law_number
    m__law_number := PySem.W.mg_of X G a__law_number
    b__law_number := (fund_mk l__law_number c__law_number k__law_number).bindsN (ps := ["_law_bag_here"]) fun _ _ _ _ _ _ us hl => match us, hl with | [_], _ => rfl
    t__law_gcd := fund_mk l__law_gcd c__law_gcd k__law_gcd
    m__law_gcd := PySem.W.mg_of X G a__law_gcd
    b__law_gcd := (fund_mk l__law_gcd c__law_gcd k__law_gcd).bindsN (ps := ["_law_numbers"]) fun _ _ _ _ _ _ us hl => match us, hl with | [_], _ => rfl
    t__law_ratio := fund_mk l__law_ratio c__law_ratio k__law_ratio
    m__law_ratio := PySem.W.mg_of X G a__law_ratio
    b__law_ratio := (fund_mk l__law_ratio c__law_ratio k__law_ratio).bindsN (ps := ["_law_top", "_law_bottom"]) fun _ _ _ _ _ _ us hl => match us, hl with | [_, _], _ => rfl
    t__law_three := fund_mk l__law_three c__law_three k__law_three
    m__law_three := PySem.W.mg_of X G a__law_three
    b__law_three := (fund_mk l__law_three c__law_three k__law_three).bindsN (ps := ["_law_bag_here"]) fun _ _ _ _ _ _ us hl => match us, hl with | [_], _ => rfl
    t__law_flag := fund_mk l__law_flag c__law_flag k__law_flag
    m__law_flag := PySem.W.mg_of X G a__law_flag
    b__law_flag := (fund_mk l__law_flag c__law_flag k__law_flag).bindsN (ps := ["_law_thing", "_law_due"]) fun _ _ _ _ _ _ us hl => match us, hl with | [_, _], _ => rfl
    t__law_is := fund_mk l__law_is c__law_is k__law_is
    m__law_is := PySem.W.mg_of X G a__law_is
    b__law_is := (fund_mk l__law_is c__law_is k__law_is).bindsN (ps := ["_law_motion", "_law_numbers"]) fun _ _ _ _ _ _ us hl => match us, hl with | [_, _], _ => rfl
    t_is_number := fund_mk l_is_number c_is_number k_is_number
    m_is_number := PySem.W.mg_of X G a_is_number
    b_is_number := (fund_mk l_is_number c_is_number k_is_number).bindsN (ps := ["thing"]) fun _ _ _ _ _ _ us hl => match us, hl with | [_], _ => rfl
    t_Motion___init__ := fund_mk l_Motion___init__ c_Motion___init__ k_Motion___init__
    b_Motion___init__ := (fund_mk l_Motion___init__ c_Motion___init__ k_Motion___init__).bindsN (ps := ["self", "turn", "across", "up"]) fun _ _ _ _ _ _ us hl => match us, hl with | [_, _, _, _], _ => rfl
    t__law_refused := fund_mk l__law_refused c__law_refused k__law_refused
    m__law_refused := PySem.W.mg_of X G a__law_refused
    b__law_refused := (fund_mk l__law_refused c__law_refused k__law_refused).bindsN (ps := ["_law_numbers"]) fun _ _ _ _ _ _ us hl => match us, hl with | [_], _ => rfl
    t__law_number_is := fund_mk l__law_number_is c__law_number_is k__law_number_is
    m__law_number_is := PySem.W.mg_of X G a__law_number_is
    b__law_number_is := (fund_mk l__law_number_is c__law_number_is k__law_number_is).bindsN (ps := ["_law_thing", "_law_number_here"]) fun _ _ _ _ _ _ us hl => match us, hl with | [_, _], _ => rfl
    t_Motion___add__ := fund_mk l_Motion___add__ c_Motion___add__ k_Motion___add__
    b_Motion___add__ := (fund_mk l_Motion___add__ c_Motion___add__ k_Motion___add__).bindsN (ps := ["self", "other"]) fun _ _ _ _ _ _ us hl => match us, hl with | [_, _], _ => rfl
    t_Motion___sub__ := fund_mk l_Motion___sub__ c_Motion___sub__ k_Motion___sub__
    b_Motion___sub__ := (fund_mk l_Motion___sub__ c_Motion___sub__ k_Motion___sub__).bindsN (ps := ["self", "other"]) fun _ _ _ _ _ _ us hl => match us, hl with | [_, _], _ => rfl
    t_Motion___neg__ := fund_mk l_Motion___neg__ c_Motion___neg__ k_Motion___neg__
    b_Motion___neg__ := (fund_mk l_Motion___neg__ c_Motion___neg__ k_Motion___neg__).bindsN (ps := ["self"]) fun _ _ _ _ _ _ us hl => match us, hl with | [_], _ => rfl
    t_Motion___mul__ := fund_mk l_Motion___mul__ c_Motion___mul__ k_Motion___mul__
    b_Motion___mul__ := (fund_mk l_Motion___mul__ c_Motion___mul__ k_Motion___mul__).bindsN (ps := ["self", "other"]) fun _ _ _ _ _ _ us hl => match us, hl with | [_, _], _ => rfl
    t_Motion___eq__ := fund_mk l_Motion___eq__ c_Motion___eq__ k_Motion___eq__
    b_Motion___eq__ := (fund_mk l_Motion___eq__ c_Motion___eq__ k_Motion___eq__).bindsN (ps := ["self", "other"]) fun _ _ _ _ _ _ us hl => match us, hl with | [_, _], _ => rfl
    t_Force___init__ := fund_mk l_Force___init__ c_Force___init__ k_Force___init__
    b_Force___init__ := (fund_mk l_Force___init__ c_Force___init__ k_Force___init__).bindsN (ps := ["self", "across", "up", "moment"]) fun _ _ _ _ _ _ us hl => match us, hl with | [_, _, _, _], _ => rfl
    t_Motion_is_none := fund_mk l_Motion_is_none c_Motion_is_none k_Motion_is_none
    b_Motion_is_none := (fund_mk l_Motion_is_none c_Motion_is_none k_Motion_is_none).bindsN (ps := ["self"]) fun _ _ _ _ _ _ us hl => match us, hl with | [_], _ => rfl
    t_Motion_none := fund_mk l_Motion_none c_Motion_none k_Motion_none
    b_Motion_none := (fund_mk l_Motion_none c_Motion_none k_Motion_none).bindsN (ps := ["cls"]) fun _ _ _ _ _ _ us hl => match us, hl with | [_], _ => rfl
    t__law_signs := fund_mk l__law_signs c__law_signs k__law_signs
    m__law_signs := PySem.W.mg_of X G a__law_signs
    b__law_signs := (fund_mk l__law_signs c__law_signs k__law_signs).bindsN (ps := ["_law_a", "_law_b", "_law_times"]) fun _ _ _ _ _ _ us hl => match us, hl with | [_, _, _], _ => rfl
    t_Motion_turning := fund_mk1 (its := [.int 1 ttk0_Motion_turning]) l_Motion_turning c_Motion_turning k_Motion_turning lt_Motion_turning (show Vals [.int 1] [.int 1 ttk0_Motion_turning] from .cons ⟨_, rfl⟩ .nil) (by simp)
    b_Motion_turning := binds_full (FunD.binds1 (ps := ["cls", "point", "turn"]) (fund_mk1 (its := [.int 1 ttk0_Motion_turning]) l_Motion_turning c_Motion_turning k_Motion_turning lt_Motion_turning (show Vals [.int 1] [.int 1 ttk0_Motion_turning] from .cons ⟨_, rfl⟩ .nil) (by simp)) 3 1 (by simp) rfl fun _ _ _ _ _ _ _ us its hl h2 => match us, hl, its, h2 with | [_, _, _], _, [_], _ => ⟨_, rfl, rfl⟩) rfl
    bd1_Motion_turning := FunD.binds1 (ps := ["cls", "point", "turn"]) (fund_mk1 (its := [.int 1 ttk0_Motion_turning]) l_Motion_turning c_Motion_turning k_Motion_turning lt_Motion_turning (show Vals [.int 1] [.int 1 ttk0_Motion_turning] from .cons ⟨_, rfl⟩ .nil) (by simp)) 2 0 (by simp) rfl fun _ _ _ _ _ _ _ us its hl h2 => match us, hl, its, h2 with | [_, _], _, [_], _ => ⟨_, rfl, rfl⟩
    t_Motion_at := fund_mk l_Motion_at c_Motion_at k_Motion_at
    b_Motion_at := (fund_mk l_Motion_at c_Motion_at k_Motion_at).bindsN (ps := ["self", "point"]) fun _ _ _ _ _ _ us hl => match us, hl with | [_, _], _ => rfl
    t_Motion_measure := fund_mk l_Motion_measure c_Motion_measure k_Motion_measure
    b_Motion_measure := (fund_mk l_Motion_measure c_Motion_measure k_Motion_measure).bindsN (ps := ["self", "force"]) fun _ _ _ _ _ _ us hl => match us, hl with | [_, _], _ => rfl
    t_Force_about := fund_mk l_Force_about c_Force_about k_Force_about
    b_Force_about := (fund_mk l_Force_about c_Force_about k_Force_about).bindsN (ps := ["self", "point"]) fun _ _ _ _ _ _ us hl => match us, hl with | [_, _], _ => rfl
    t_Force_acting := fund_mk l_Force_acting c_Force_acting k_Force_acting
    b_Force_acting := (fund_mk l_Force_acting c_Force_acting k_Force_acting).bindsN (ps := ["cls", "across", "up", "point"]) fun _ _ _ _ _ _ us hl => match us, hl with | [_, _, _, _], _ => rfl
    t__law_points := fund_mk l__law_points c__law_points k__law_points
    m__law_points := PySem.W.mg_of X G a__law_points
    b__law_points := (fund_mk l__law_points c__law_points k__law_points).bindsN (ps := ["_law_a", "_law_f", "_law_point", "_law_times"]) fun _ _ _ _ _ _ us hl => match us, hl with | [_, _, _, _], _ => rfl
    t__law_bag := fund_mk l__law_bag c__law_bag k__law_bag
    m__law_bag := PySem.W.mg_of X G a__law_bag
    b__law_bag := (fund_mk l__law_bag c__law_bag k__law_bag).bindsN (ps := ["_law_script", "_law_at"]) fun _ _ _ _ _ _ us hl => match us, hl with | [_, _], _ => rfl
    t_ratio := fund_mk l_ratio c_ratio k_ratio
    m_ratio := PySem.W.mg_of X G a_ratio
    b_ratio := (fund_mk l_ratio c_ratio k_ratio).bindsN (ps := ["top", "bottom"]) fun _ _ _ _ _ _ us hl => match us, hl with | [_, _], _ => rfl
    t_Motion_measure_of := fund_mk l_Motion_measure_of c_Motion_measure_of k_Motion_measure_of
    b_Motion_measure_of := (fund_mk l_Motion_measure_of c_Motion_measure_of k_Motion_measure_of).bindsN (ps := ["self", "thrust"]) fun _ _ _ _ _ _ us hl => match us, hl with | [_, _], _ => rfl
    t_Thrust___init__ := fund_mk1 (its := [.int 1 ttk0_Thrust___init__]) l_Thrust___init__ c_Thrust___init__ k_Thrust___init__ lt_Thrust___init__ (show Vals [.int 1] [.int 1 ttk0_Thrust___init__] from .cons ⟨_, rfl⟩ .nil) (by simp)
    b_Thrust___init__ := binds_full (FunD.binds1 (ps := ["self", "force", "parts"]) (fund_mk1 (its := [.int 1 ttk0_Thrust___init__]) l_Thrust___init__ c_Thrust___init__ k_Thrust___init__ lt_Thrust___init__ (show Vals [.int 1] [.int 1 ttk0_Thrust___init__] from .cons ⟨_, rfl⟩ .nil) (by simp)) 3 1 (by simp) rfl fun _ _ _ _ _ _ _ us its hl h2 => match us, hl, its, h2 with | [_, _, _], _, [_], _ => ⟨_, rfl, rfl⟩) rfl
    bd1_Thrust___init__ := FunD.binds1 (ps := ["self", "force", "parts"]) (fund_mk1 (its := [.int 1 ttk0_Thrust___init__]) l_Thrust___init__ c_Thrust___init__ k_Thrust___init__ lt_Thrust___init__ (show Vals [.int 1] [.int 1 ttk0_Thrust___init__] from .cons ⟨_, rfl⟩ .nil) (by simp)) 2 0 (by simp) rfl fun _ _ _ _ _ _ _ us its hl h2 => match us, hl, its, h2 with | [_, _], _, [_], _ => ⟨_, rfl, rfl⟩
    t_law := fund_mk l_law c_law k_law
    m_law := PySem.W.mg_of X G a_law
    b_law := (fund_mk l_law c_law k_law).bindsN (ps := ["_law_script"]) fun _ _ _ _ _ _ us hl => match us, hl with | [_], _ => rfl
    m_BridgeError := PySem.W.mg_of X G ac_BridgeError
    m_BadRatio := PySem.W.mg_of X G ac_BadRatio
    m_BadForce := PySem.W.mg_of X G ac_BadForce
    m_BadThrust := PySem.W.mg_of X G ac_BadThrust
    m_BadMotion := PySem.W.mg_of X G ac_BadMotion
    m_BadWeights := PySem.W.mg_of X G ac_BadWeights
    m_Motion := PySem.W.mg_of X G ac_Motion
    m_Force := PySem.W.mg_of X G ac_Force
    m_Thrust := PySem.W.mg_of X G ac_Thrust
    cl_Motion := ⟨pg_Motion, hd_Motion, po_Motion, sa_Motion⟩
    na_Motion_up := na_Motion_up
    na_Motion_across := na_Motion_across
    na_Motion_turn := na_Motion_turn
    cl_Force := ⟨pg_Force, hd_Force, po_Force, sa_Force⟩
    na_Force_up := na_Force_up
    na_Force_across := na_Force_across
    na_Force_moment := na_Force_moment
    cl_Thrust := ⟨pg_Thrust, hd_Thrust, po_Thrust, sa_Thrust⟩
    na_Thrust_parts := na_Thrust_parts
    na_Thrust_force := na_Thrust_force
    mk_Motion := ⟨⟨mk_Motion, fi_Motion, fn_Motion___init__, kc_Motion⟩, PySem.W.mg_of X G ac_Motion, ((fund_mk l_Motion___init__ c_Motion___init__ k_Motion___init__).bindsN (ps := ["self", "turn", "across", "up"]) fun _ _ _ _ _ _ us hl => match us, hl with | [_, _, _, _], _ => rfl)⟩
    mk_Force := ⟨⟨mk_Force, fi_Force, fn_Force___init__, kc_Force⟩, PySem.W.mg_of X G ac_Force, ((fund_mk l_Force___init__ c_Force___init__ k_Force___init__).bindsN (ps := ["self", "across", "up", "moment"]) fun _ _ _ _ _ _ us hl => match us, hl with | [_, _, _, _], _ => rfl)⟩
    mk_Thrust := ⟨⟨mk_Thrust, fi_Thrust, fn_Thrust___init__, kc_Thrust⟩, PySem.W.mg_of X G ac_Thrust, (binds_full (FunD.binds1 (ps := ["self", "force", "parts"]) (fund_mk1 (its := [.int 1 ttk0_Thrust___init__]) l_Thrust___init__ c_Thrust___init__ k_Thrust___init__ lt_Thrust___init__ (show Vals [.int 1] [.int 1 ttk0_Thrust___init__] from .cons ⟨_, rfl⟩ .nil) (by simp)) 3 1 (by simp) rfl fun _ _ _ _ _ _ _ us its hl h2 => match us, hl, its, h2 with | [_, _, _], _, [_], _ => ⟨_, rfl, rfl⟩) rfl)⟩
    mk1_Thrust := ⟨⟨mk_Thrust, fi_Thrust, fn_Thrust___init__, kc_Thrust⟩, PySem.W.mg_of X G ac_Thrust, And.right (Exists.choose_spec (p := fun dl => Vals _ dl ∧ L2.Binds _ _ _ dl) _)⟩
    op_Motion___add__ := ⟨sf_Motion, of_Motion___add__, fn_Motion___add__, ((fund_mk l_Motion___add__ c_Motion___add__ k_Motion___add__).bindsN (ps := ["self", "other"]) fun _ _ _ _ _ _ us hl => match us, hl with | [_, _], _ => rfl)⟩
    op_Motion___sub__ := ⟨sf_Motion, of_Motion___sub__, fn_Motion___sub__, ((fund_mk l_Motion___sub__ c_Motion___sub__ k_Motion___sub__).bindsN (ps := ["self", "other"]) fun _ _ _ _ _ _ us hl => match us, hl with | [_, _], _ => rfl)⟩
    op_Motion___mul__ := ⟨sf_Motion, of_Motion___mul__, fn_Motion___mul__, ((fund_mk l_Motion___mul__ c_Motion___mul__ k_Motion___mul__).bindsN (ps := ["self", "other"]) fun _ _ _ _ _ _ us hl => match us, hl with | [_, _], _ => rfl)⟩
    oi_Motion___mul__ := ⟨or_Motion___mul__, ⟨_, o1_Motion___mul__⟩, ⟨_, o2_Motion___mul__⟩, o3_Motion___mul__⟩
    ng_Motion___neg__ := ⟨of_Motion___neg__, fn_Motion___neg__, ((fund_mk l_Motion___neg__ c_Motion___neg__ k_Motion___neg__).bindsN (ps := ["self"]) fun _ _ _ _ _ _ us hl => match us, hl with | [_], _ => rfl)⟩
    eq_Motion___eq__ := ⟨of_Motion___eq__, fn_Motion___eq__, ((fund_mk l_Motion___eq__ c_Motion___eq__ k_Motion___eq__).bindsN (ps := ["self", "other"]) fun _ _ _ _ _ _ us hl => match us, hl with | [_, _], _ => rfl)⟩
    nq_Motion_NoneType := nq_Motion_NoneType
    nq_Motion_bool := nq_Motion_bool
    nq_Motion_int := nq_Motion_int
    nq_Motion_str := nq_Motion_str
    nq_Motion_list := nq_Motion_list
    nq_Motion_tuple := nq_Motion_tuple
    nq_Motion_Motion := nq_Motion_Motion
    nq_Motion_Force := nq_Motion_Force
    nq_Motion_Thrust := nq_Motion_Thrust
    pr_Motion_is_none := ⟨⟨pg_Motion, hd_Motion, po_Motion, sa_Motion⟩, ⟨pf_Motion_is_none, pp_Motion_is_none, pt_Motion_is_none, ⟨_, pr_Motion_is_none⟩⟩, ((fund_mk l_Motion_is_none c_Motion_is_none k_Motion_is_none).bindsN (ps := ["self"]) fun _ _ _ _ _ _ us hl => match us, hl with | [_], _ => rfl)⟩
    cm_Motion_none := ⟨⟨cr_Motion_none, cg_Motion_none⟩, ⟨cf_Motion_none, ⟨_, cc_Motion_none⟩, ci_Motion_none⟩, ((fund_mk l_Motion_none c_Motion_none k_Motion_none).bindsN (ps := ["cls"]) fun _ _ _ _ _ _ us hl => match us, hl with | [_], _ => rfl)⟩
    cm_Motion_turning := ⟨⟨cr_Motion_turning, cg_Motion_turning⟩, ⟨cf_Motion_turning, ⟨_, cc_Motion_turning⟩, ci_Motion_turning⟩, (binds_full (FunD.binds1 (ps := ["cls", "point", "turn"]) (fund_mk1 (its := [.int 1 ttk0_Motion_turning]) l_Motion_turning c_Motion_turning k_Motion_turning lt_Motion_turning (show Vals [.int 1] [.int 1 ttk0_Motion_turning] from .cons ⟨_, rfl⟩ .nil) (by simp)) 3 1 (by simp) rfl fun _ _ _ _ _ _ _ us its hl h2 => match us, hl, its, h2 with | [_, _, _], _, [_], _ => ⟨_, rfl, rfl⟩) rfl)⟩
    cm1_Motion_turning := ⟨⟨cr_Motion_turning, cg_Motion_turning⟩, ⟨cf_Motion_turning, ⟨_, cc_Motion_turning⟩, ci_Motion_turning⟩, And.right (Exists.choose_spec (p := fun dl => Vals _ dl ∧ L2.Binds _ _ _ dl) _)⟩
    cm_Force_acting := ⟨⟨cr_Force_acting, cg_Force_acting⟩, ⟨cf_Force_acting, ⟨_, cc_Force_acting⟩, ci_Force_acting⟩, ((fund_mk l_Force_acting c_Force_acting k_Force_acting).bindsN (ps := ["cls", "across", "up", "point"]) fun _ _ _ _ _ _ us hl => match us, hl with | [_, _, _, _], _ => rfl)⟩
    mt_Motion_at := ⟨⟨pg_Motion, hd_Motion, po_Motion, sa_Motion⟩, ⟨mf_Motion_at, fn_Motion_at, k_Motion_at⟩, ((fund_mk l_Motion_at c_Motion_at k_Motion_at).bindsN (ps := ["self", "point"]) fun _ _ _ _ _ _ us hl => match us, hl with | [_, _], _ => rfl)⟩
    mt_Motion_measure := ⟨⟨pg_Motion, hd_Motion, po_Motion, sa_Motion⟩, ⟨mf_Motion_measure, fn_Motion_measure, k_Motion_measure⟩, ((fund_mk l_Motion_measure c_Motion_measure k_Motion_measure).bindsN (ps := ["self", "force"]) fun _ _ _ _ _ _ us hl => match us, hl with | [_, _], _ => rfl)⟩
    mt_Force_about := ⟨⟨pg_Force, hd_Force, po_Force, sa_Force⟩, ⟨mf_Force_about, fn_Force_about, k_Force_about⟩, ((fund_mk l_Force_about c_Force_about k_Force_about).bindsN (ps := ["self", "point"]) fun _ _ _ _ _ _ us hl => match us, hl with | [_, _], _ => rfl)⟩
    mt_Motion_measure_of := ⟨⟨pg_Motion, hd_Motion, po_Motion, sa_Motion⟩, ⟨mf_Motion_measure_of, fn_Motion_measure_of, k_Motion_measure_of⟩, ((fund_mk l_Motion_measure_of c_Motion_measure_of k_Motion_measure_of).bindsN (ps := ["self", "thrust"]) fun _ _ _ _ _ _ us hl => match us, hl with | [_, _], _ => rfl)⟩
    e_BadRatio := ⟨⟨⟨_, _, _, _, _, _, _, _, _, _, _, _, _, _, _, x1_BadRatio, x2_BadRatio⟩, x3_BadRatio, x4_BadRatio, x5_BadRatio, x6_BadRatio⟩, x7_BadRatio, x8_BadRatio, fun_mk (st := si_BadRatio) li_BadRatio cdi_BadRatio_ ki_BadRatio, (fun_mk (st := si_BadRatio) li_BadRatio cdi_BadRatio_ ki_BadRatio).binds (ps := ["self"]) fun _ _ _ _ _ _ us hl => match us, hl with | [_], _ => rfl, PySem.W.mg_of X G ac_BadRatio⟩
    e_BadForce := ⟨⟨⟨_, _, _, _, _, _, _, _, _, _, _, _, _, _, _, x1_BadForce, x2_BadForce⟩, x3_BadForce, x4_BadForce, x5_BadForce, x6_BadForce⟩, x7_BadForce, x8_BadForce, fun_mk (st := si_BadForce) li_BadForce cdi_BadForce_ ki_BadForce, (fun_mk (st := si_BadForce) li_BadForce cdi_BadForce_ ki_BadForce).binds (ps := ["self", "what"]) fun _ _ _ _ _ _ us hl => match us, hl with | [_, _], _ => rfl, PySem.W.mg_of X G ac_BadForce⟩
    xn_BadForce_what := xn_BadForce_what
    e_BadThrust := ⟨⟨⟨_, _, _, _, _, _, _, _, _, _, _, _, _, _, _, x1_BadThrust, x2_BadThrust⟩, x3_BadThrust, x4_BadThrust, x5_BadThrust, x6_BadThrust⟩, x7_BadThrust, x8_BadThrust, fun_mk (st := si_BadThrust) li_BadThrust cdi_BadThrust_ ki_BadThrust, (fun_mk (st := si_BadThrust) li_BadThrust cdi_BadThrust_ ki_BadThrust).binds (ps := ["self"]) fun _ _ _ _ _ _ us hl => match us, hl with | [_], _ => rfl, PySem.W.mg_of X G ac_BadThrust⟩
    e_BadMotion := ⟨⟨⟨_, _, _, _, _, _, _, _, _, _, _, _, _, _, _, x1_BadMotion, x2_BadMotion⟩, x3_BadMotion, x4_BadMotion, x5_BadMotion, x6_BadMotion⟩, x7_BadMotion, x8_BadMotion, fun_mk (st := si_BadMotion) li_BadMotion cdi_BadMotion_ ki_BadMotion, (fun_mk (st := si_BadMotion) li_BadMotion cdi_BadMotion_ ki_BadMotion).binds (ps := ["self"]) fun _ _ _ _ _ _ us hl => match us, hl with | [_], _ => rfl, PySem.W.mg_of X G ac_BadMotion⟩
    xm_BadRatio_BridgeError := PySem.W.exm_ref e1_BridgeError e2_BridgeError e3_BridgeError es_BadRatio_BridgeError
    xm_BadForce_BridgeError := PySem.W.exm_ref e1_BridgeError e2_BridgeError e3_BridgeError es_BadForce_BridgeError
    xm_BadThrust_BridgeError := PySem.W.exm_ref e1_BridgeError e2_BridgeError e3_BridgeError es_BadThrust_BridgeError
    xm_BadMotion_BridgeError := PySem.W.exm_ref e1_BridgeError e2_BridgeError e3_BridgeError es_BadMotion_BridgeError
    y_BadForce := ⟨y1_BadForce, y2_BadForce, y3_BadForce, y4_BadForce, y5_BadForce, y6_BadForce, y7_BadForce, y8_BadForce⟩
    y_BadMotion := ⟨y1_BadMotion, y2_BadMotion, y3_BadMotion, y4_BadMotion, y5_BadMotion, y6_BadMotion, y7_BadMotion, y8_BadMotion⟩
    y_BadRatio := ⟨y1_BadRatio, y2_BadRatio, y3_BadRatio, y4_BadRatio, y5_BadRatio, y6_BadRatio, y7_BadRatio, y8_BadRatio⟩
    y_BadThrust := ⟨y1_BadThrust, y2_BadThrust, y3_BadThrust, y4_BadThrust, y5_BadThrust, y6_BadThrust, y7_BadThrust, y8_BadThrust⟩
    kt_BadForce_BadMotion := kit_own hq_BadMotion hty_BadMotion sb_BadForce_BadMotion (ref_ne ne_BadForce_BadMotion)
    kt_BadForce_BadWeights := kit_own hq_BadWeights hty_BadWeights sb_BadForce_BadWeights (ref_ne ne_BadForce_BadWeights)
    kt_BadForce_ValueError := kit_bt (by decide +kernel) sb_BadForce_ValueError
    kt_BadMotion_BadMotion := kit_self
    kt_BadMotion_BadWeights := kit_own hq_BadWeights hty_BadWeights sb_BadMotion_BadWeights (ref_ne ne_BadMotion_BadWeights)
    kt_BadMotion_ValueError := kit_bt (by decide +kernel) sb_BadMotion_ValueError
    kt_BadRatio_BadMotion := kit_own hq_BadMotion hty_BadMotion sb_BadRatio_BadMotion (ref_ne ne_BadRatio_BadMotion)
    kt_BadRatio_BadWeights := kit_own hq_BadWeights hty_BadWeights sb_BadRatio_BadWeights (ref_ne ne_BadRatio_BadWeights)
    kt_BadRatio_ValueError := kit_bt (by decide +kernel) sb_BadRatio_ValueError
    kt_BadThrust_BadMotion := kit_own hq_BadMotion hty_BadMotion sb_BadThrust_BadMotion (ref_ne ne_BadThrust_BadMotion)
    kt_BadThrust_BadWeights := kit_own hq_BadWeights hty_BadWeights sb_BadThrust_BadWeights (ref_ne ne_BadThrust_BadWeights)
    kt_BadThrust_ValueError := kit_bt (by decide +kernel) sb_BadThrust_ValueError
    kt_Force_Force := kit_self
    kt_Force_Motion := kit_own hq_Motion hty_Motion sb_Force_Motion (ref_ne ne_Force_Motion)
    kt_Force_bool := kit_bt (by decide +kernel) sb_Force_bool
    kt_Force_int := kit_bt (by decide +kernel) sb_Force_int
    kt_Force_tuple := kit_bt (by decide +kernel) sb_Force_tuple
    kt_Motion_Force := kit_own hq_Force hty_Force sb_Motion_Force (ref_ne ne_Motion_Force)
    kt_Motion_Motion := kit_self
    kt_Motion_bool := kit_bt (by decide +kernel) sb_Motion_bool
    kt_Motion_int := kit_bt (by decide +kernel) sb_Motion_int
    kt_Motion_tuple := kit_bt (by decide +kernel) sb_Motion_tuple
    kt_NoneType_Force := kit_own hq_Force hty_Force sb_NoneType_Force ty_ne
    kt_NoneType_Motion := kit_own hq_Motion hty_Motion sb_NoneType_Motion ty_ne
    kt_Thrust_Force := kit_own hq_Force hty_Force sb_Thrust_Force (ref_ne ne_Thrust_Force)
    kt_Thrust_Motion := kit_own hq_Motion hty_Motion sb_Thrust_Motion (ref_ne ne_Thrust_Motion)
    kt_Thrust_bool := kit_bt (by decide +kernel) sb_Thrust_bool
    kt_Thrust_int := kit_bt (by decide +kernel) sb_Thrust_int
    kt_Thrust_tuple := kit_bt (by decide +kernel) sb_Thrust_tuple
    kt_bool_Force := kit_own hq_Force hty_Force sb_bool_Force ty_ne
    kt_bool_Motion := kit_own hq_Motion hty_Motion sb_bool_Motion ty_ne
    kt_int_Force := kit_own hq_Force hty_Force sb_int_Force ty_ne
    kt_int_Motion := kit_own hq_Motion hty_Motion sb_int_Motion ty_ne
    kt_list_Force := kit_own hq_Force hty_Force sb_list_Force ty_ne
    kt_list_Motion := kit_own hq_Motion hty_Motion sb_list_Motion ty_ne
    kt_str_Force := kit_own hq_Force hty_Force sb_str_Force ty_ne
    kt_str_Motion := kit_own hq_Motion hty_Motion sb_str_Motion ty_ne
    kt_tuple_Force := kit_own hq_Force hty_Force sb_tuple_Force ty_ne
    kt_tuple_Motion := kit_own hq_Motion hty_Motion sb_tuple_Motion ty_ne
    isc_Force := ⟨⟨pg_Force, hd_Force, po_Force, sa_Force⟩, y5_Force, y6_Force, y7_Force, y8_Force⟩
    isc_Motion := ⟨⟨pg_Motion, hd_Motion, po_Motion, sa_Motion⟩, y5_Motion, y6_Motion, y7_Motion, y8_Motion⟩
    isc_Thrust := ⟨⟨pg_Thrust, hd_Thrust, po_Thrust, sa_Thrust⟩, y5_Thrust, y6_Thrust, y7_Thrust, y8_Thrust⟩
    n_ValueError := PySem.W.mg_none_of X G z_ValueError
    n_abs := PySem.W.mg_none_of X G z_abs
    n_bool := PySem.W.mg_none_of X G z_bool
    n_enumerate := PySem.W.mg_none_of X G z_enumerate
    n_int := PySem.W.mg_none_of X G z_int
    n_isinstance := PySem.W.mg_none_of X G z_isinstance
    n_len := PySem.W.mg_none_of X G z_len
    n_list := PySem.W.mg_none_of X G z_list
    n_tuple := PySem.W.mg_none_of X G z_tuple
    g_gcd := PySem.W.mg_of X G zi_gcd }
  exact ⟨(PySem.W.fnOf "law" "law" (defArgs s_law) (defBody s_law) (defScope s_law) .none kV_law dc_law pm_law an_law cd_law ct_law), fun s v => .of_eq rfl, fun base _ _ => ok_law good T⟩
theorem no_way (P : Program) (w : World) (H : Hp) (s : Shared) (e : Value) (s' : Shared) : L2.CX P w [] H s (fun _ _ _ => False) e s' → False := fun z => by
  obtain ⟨_, _, _, _, _, _, _, _, _, _, _, _, q⟩ := z
  exact q
theorem walk {l : PySem.W.OpenLaw} {q : Program} {loose : List Str} {XP : (Str → Option Value) → Heap → Prop} {YP : World → Heap → Prop} {d : DefRec} {K : Params → PySem.W.Frag} (hn : l.most = some 63) (hdf : d.params.defaults = [])
    (hY : ∀ (w : World) (h : Heap), YP w h → (K w.params).In h)
    (F : ∀ (w : World) (mg : Str → Option Value) (fa : Addr) (h : Heap), (K w.params).In h → h.Ns mainGlobals mg → mg d.name = some (.ref fa) →
      ∃ fd : FuncData, (∀ (s : Shared) (u : Value), BindsTo s fd ⟨[u], []⟩ [("_law_script", u)]) ∧ ∀ base : Heap, (K w.params).In base → base.Ns mainGlobals mg → FnOk l.prog w (K w.params) mg base (L2.CX l.prog w) 7 fa fd ["_law_script"] (spLaw (K w.params))) :
    PySem.W.WalkO q loose XP YP l.row.toRowW d [] (fun f vs => PySem.call f vs) :=
  L2.walk_of (n := 63) (k := 7) (x := "_law_script") (CX := fun w => L2.CX l.prog w) (sp := fun w => spLaw (K w.params)) hn (by decide) hdf ⟨rfl, by decide, by decide⟩ hY F (fun _ _ a ns hl _ hS => ⟨a, ns, rfl, hS, hl, fun _ => rfl⟩) fun w H s e s' z => no_way l.prog w H s e s' z
end K11

set_option Elab.async false
set_option linter.all false
open PySem PySem.W PyProof.Rows
set_option maxRecDepth 100000 in
set_option maxHeartbeats 0 in
theorem PySem.Challenge.cw_fourhinges_k11_motions_measured_holds : PySem.Challenge.rw_fourhinges_k11_motions_measured.Holds := by
  w_on; o_law; k_head; (case hw => w_witness2)
  k_fill
  refine K11.walk (l := PySem.Challenge.rw_fourhinges_k11_motions_measured) rfl rfl (fun w h Y => PySem.W.kIn_of Y) ?F
  case F =>
    intro w mg fa h KX G hmg
    refine' K11.all_mk KX G hmg ?a__law_take ?l__law_take ?c__law_take ?k__law_take ?a__law_of ?l__law_of ?c__law_of ?k__law_of ?a__law_number ?l__law_number ?c__law_number ?k__law_number ?a__law_gcd ?l__law_gcd ?c__law_gcd ?k__law_gcd ?a__law_ratio ?l__law_ratio ?c__law_ratio ?k__law_ratio ?a__law_three ?l__law_three ?c__law_three ?k__law_three ?a__law_flag ?l__law_flag ?c__law_flag ?k__law_flag ?a__law_is ?l__law_is ?c__law_is ?k__law_is ?a_is_number ?l_is_number ?c_is_number ?k_is_number ?l_Motion___init__ ?c_Motion___init__ ?k_Motion___init__ ?a__law_refused ?l__law_refused ?c__law_refused ?k__law_refused ?a__law_number_is ?l__law_number_is ?c__law_number_is ?k__law_number_is ?l_Motion___add__ ?c_Motion___add__ ?k_Motion___add__ ?l_Motion___sub__ ?c_Motion___sub__ ?k_Motion___sub__ ?l_Motion___neg__ ?c_Motion___neg__ ?k_Motion___neg__ ?l_Motion___mul__ ?c_Motion___mul__ ?k_Motion___mul__ ?l_Motion___eq__ ?c_Motion___eq__ ?k_Motion___eq__ ?l_Force___init__ ?c_Force___init__ ?k_Force___init__ ?l_Motion_is_none ?c_Motion_is_none ?k_Motion_is_none ?l_Motion_none ?c_Motion_none ?k_Motion_none ?a__law_signs ?l__law_signs ?c__law_signs ?k__law_signs ?l_Motion_turning ?c_Motion_turning ?k_Motion_turning ?lt_Motion_turning ?l_Motion_at ?c_Motion_at ?k_Motion_at ?l_Motion_measure ?c_Motion_measure ?k_Motion_measure ?l_Force_about ?c_Force_about ?k_Force_about ?l_Force_acting ?c_Force_acting ?k_Force_acting ?a__law_points ?l__law_points ?c__law_points ?k__law_points ?a__law_bag ?l__law_bag ?c__law_bag ?k__law_bag ?a_ratio ?l_ratio ?c_ratio ?k_ratio ?l_Motion_measure_of ?c_Motion_measure_of ?k_Motion_measure_of ?l_Thrust___init__ ?c_Thrust___init__ ?k_Thrust___init__ ?lt_Thrust___init__ ?a_law ?l_law ?c_law ?k_law ?ac_BridgeError ?ac_BadRatio ?ac_BadForce ?ac_BadThrust ?ac_BadMotion ?ac_BadWeights ?ac_Motion ?ac_Force ?ac_Thrust ?pg_Motion ?hd_Motion ?po_Motion ?sa_Motion ?na_Motion_up ?na_Motion_across ?na_Motion_turn ?pg_Force ?hd_Force ?po_Force ?sa_Force ?na_Force_up ?na_Force_across ?na_Force_moment ?pg_Thrust ?hd_Thrust ?po_Thrust ?sa_Thrust ?na_Thrust_parts ?na_Thrust_force ?mk_Motion ?fi_Motion ?fn_Motion___init__ ?kc_Motion ?mk_Force ?fi_Force ?fn_Force___init__ ?kc_Force ?mk_Thrust ?fi_Thrust ?fn_Thrust___init__ ?kc_Thrust ?sf_Motion ?of_Motion___add__ ?fn_Motion___add__ ?of_Motion___sub__ ?fn_Motion___sub__ ?of_Motion___mul__ ?fn_Motion___mul__ ?or_Motion___mul__ ?o1_Motion___mul__ ?o2_Motion___mul__ ?o3_Motion___mul__ ?of_Motion___neg__ ?fn_Motion___neg__ ?of_Motion___eq__ ?fn_Motion___eq__ ?nq_Motion_NoneType ?nq_Motion_bool ?nq_Motion_int ?nq_Motion_str ?nq_Motion_list ?nq_Motion_tuple ?nq_Motion_Motion ?nq_Motion_Force ?nq_Motion_Thrust ?pf_Motion_is_none ?pp_Motion_is_none ?pt_Motion_is_none ?pr_Motion_is_none ?cr_Motion_none ?cg_Motion_none ?cf_Motion_none ?cc_Motion_none ?ci_Motion_none ?cr_Motion_turning ?cg_Motion_turning ?cf_Motion_turning ?cc_Motion_turning ?ci_Motion_turning ?cr_Force_acting ?cg_Force_acting ?cf_Force_acting ?cc_Force_acting ?ci_Force_acting ?mf_Motion_at ?fn_Motion_at ?mf_Motion_measure ?fn_Motion_measure ?mf_Force_about ?fn_Force_about ?mf_Motion_measure_of ?fn_Motion_measure_of ?x1_BadRatio ?x2_BadRatio ?x3_BadRatio ?x4_BadRatio ?x5_BadRatio ?x6_BadRatio ?x7_BadRatio ?x8_BadRatio ?li_BadRatio ?cdi_BadRatio_ ?ki_BadRatio ?x1_BadForce ?x2_BadForce ?x3_BadForce ?x4_BadForce ?x5_BadForce ?x6_BadForce ?x7_BadForce ?x8_BadForce ?li_BadForce ?cdi_BadForce_ ?ki_BadForce ?xn_BadForce_what ?x1_BadThrust ?x2_BadThrust ?x3_BadThrust ?x4_BadThrust ?x5_BadThrust ?x6_BadThrust ?x7_BadThrust ?x8_BadThrust ?li_BadThrust ?cdi_BadThrust_ ?ki_BadThrust ?x1_BadMotion ?x2_BadMotion ?x3_BadMotion ?x4_BadMotion ?x5_BadMotion ?x6_BadMotion ?x7_BadMotion ?x8_BadMotion ?li_BadMotion ?cdi_BadMotion_ ?ki_BadMotion ?e1_BridgeError ?e2_BridgeError ?e3_BridgeError ?es_BadRatio_BridgeError ?es_BadForce_BridgeError ?es_BadThrust_BridgeError ?es_BadMotion_BridgeError ?y1_BadForce ?y2_BadForce ?y3_BadForce ?y4_BadForce ?y5_BadForce ?y6_BadForce ?y7_BadForce ?y8_BadForce ?y1_BadMotion ?y2_BadMotion ?y3_BadMotion ?y4_BadMotion ?y5_BadMotion ?y6_BadMotion ?y7_BadMotion ?y8_BadMotion ?y1_BadRatio ?y2_BadRatio ?y3_BadRatio ?y4_BadRatio ?y5_BadRatio ?y6_BadRatio ?y7_BadRatio ?y8_BadRatio ?y1_BadThrust ?y2_BadThrust ?y3_BadThrust ?y4_BadThrust ?y5_BadThrust ?y6_BadThrust ?y7_BadThrust ?y8_BadThrust ?hq_BadMotion ?hty_BadMotion ?sb_BadForce_BadMotion ?ne_BadForce_BadMotion ?hq_BadWeights ?hty_BadWeights ?sb_BadForce_BadWeights ?ne_BadForce_BadWeights ?sb_BadForce_ValueError ?sb_BadMotion_BadWeights ?ne_BadMotion_BadWeights ?sb_BadMotion_ValueError ?sb_BadRatio_BadMotion ?ne_BadRatio_BadMotion ?sb_BadRatio_BadWeights ?ne_BadRatio_BadWeights ?sb_BadRatio_ValueError ?sb_BadThrust_BadMotion ?ne_BadThrust_BadMotion ?sb_BadThrust_BadWeights ?ne_BadThrust_BadWeights ?sb_BadThrust_ValueError ?hq_Motion ?hty_Motion ?sb_Force_Motion ?ne_Force_Motion ?sb_Force_bool ?sb_Force_int ?sb_Force_tuple ?hq_Force ?hty_Force ?sb_Motion_Force ?ne_Motion_Force ?sb_Motion_bool ?sb_Motion_int ?sb_Motion_tuple ?sb_NoneType_Force ?sb_NoneType_Motion ?sb_Thrust_Force ?ne_Thrust_Force ?sb_Thrust_Motion ?ne_Thrust_Motion ?sb_Thrust_bool ?sb_Thrust_int ?sb_Thrust_tuple ?sb_bool_Force ?sb_bool_Motion ?sb_int_Force ?sb_int_Motion ?sb_list_Force ?sb_list_Motion ?sb_str_Force ?sb_str_Motion ?sb_tuple_Force ?sb_tuple_Motion ?y5_Force ?y6_Force ?y7_Force ?y8_Force ?y5_Motion ?y6_Motion ?y7_Motion ?y8_Motion ?y5_Thrust ?y6_Thrust ?y7_Thrust ?y8_Thrust ?z_ValueError ?z_abs ?z_bool ?z_enumerate ?z_int ?z_isinstance ?z_len ?z_list ?z_tuple ?zi_gcd
    (case a__law_take => k_is)
    (case a__law_of => k_is)
    (case a__law_number => k_is)
    (case a__law_gcd => k_is)
    (case a__law_ratio => k_is)
    (case a__law_three => k_is)
    (case a__law_flag => k_is)
    (case a__law_is => k_is)
    (case a_is_number => k_is)
    (case a__law_refused => k_is)
    (case a__law_number_is => k_is)
    (case a__law_signs => k_is)
    (case a__law_points => k_is)
    (case a__law_bag => k_is)
    (case a_ratio => k_is)
    (case a_law => k_is)
    (case ac_BridgeError => k_is)
    (case ac_BadRatio => k_is)
    (case ac_BadForce => k_is)
    (case ac_BadThrust => k_is)
    (case ac_BadMotion => k_is)
    (case ac_BadWeights => k_is)
    (case ac_Motion => k_is)
    (case ac_Force => k_is)
    (case ac_Thrust => k_is)
    (case fi_Motion => k_is)
    (case fi_Force => k_is)
    (case fi_Thrust => k_is)
    (case of_Motion___add__ => k_is)
    (case of_Motion___sub__ => k_is)
    (case of_Motion___mul__ => k_is)
    (case of_Motion___neg__ => k_is)
    (case of_Motion___eq__ => k_is)
    (case pf_Motion_is_none => k_is)
    (case cf_Motion_none => k_is)
    (case cf_Motion_turning => k_is)
    (case cf_Force_acting => k_is)
    (case mf_Motion_at => k_is)
    (case mf_Motion_measure => k_is)
    (case mf_Force_about => k_is)
    (case mf_Motion_measure_of => k_is)
    (case x7_BadRatio => k_is)
    (case x7_BadForce => k_is)
    (case x7_BadThrust => k_is)
    (case x7_BadMotion => k_is)
    (case pr_Motion_is_none => k_is)
    (case cc_Motion_none => k_is)
    (case cc_Motion_turning => k_is)
    (case cc_Force_acting => k_is)
    (case l__law_take => k_is)
    (case c__law_take => k_is)
    (case k__law_take => k_is)
    (case l__law_of => k_is)
    (case c__law_of => k_is)
    (case k__law_of => k_is)
    (case l__law_number => k_is)
    (case c__law_number => k_is)
    (case k__law_number => k_is)
    (case l__law_gcd => k_is)
    (case c__law_gcd => k_is)
    (case k__law_gcd => k_is)
    (case l__law_ratio => k_is)
    (case c__law_ratio => k_is)
    (case k__law_ratio => k_is)
    (case l__law_three => k_is)
    (case c__law_three => k_is)
    (case k__law_three => k_is)
    (case l__law_flag => k_is)
    (case c__law_flag => k_is)
    (case k__law_flag => k_is)
    (case l__law_is => k_is)
    (case c__law_is => k_is)
    (case k__law_is => k_is)
    (case l_is_number => k_is)
    (case c_is_number => k_is)
    (case k_is_number => k_is)
    (case l_Motion___init__ => k_is)
    (case c_Motion___init__ => k_is)
    (case k_Motion___init__ => k_is)
    (case l__law_refused => k_is)
    (case c__law_refused => k_is)
    (case k__law_refused => k_is)
    (case l__law_number_is => k_is)
    (case c__law_number_is => k_is)
    (case k__law_number_is => k_is)
    (case l_Motion___add__ => k_is)
    (case c_Motion___add__ => k_is)
    (case k_Motion___add__ => k_is)
    (case l_Motion___sub__ => k_is)
    (case c_Motion___sub__ => k_is)
    (case k_Motion___sub__ => k_is)
    (case l_Motion___neg__ => k_is)
    (case c_Motion___neg__ => k_is)
    (case k_Motion___neg__ => k_is)
    (case l_Motion___mul__ => k_is)
    (case c_Motion___mul__ => k_is)
    (case k_Motion___mul__ => k_is)
    (case l_Motion___eq__ => k_is)
    (case c_Motion___eq__ => k_is)
    (case k_Motion___eq__ => k_is)
    (case l_Force___init__ => k_is)
    (case c_Force___init__ => k_is)
    (case k_Force___init__ => k_is)
    (case l_Motion_is_none => k_is)
    (case c_Motion_is_none => k_is)
    (case k_Motion_is_none => k_is)
    (case l_Motion_none => k_is)
    (case c_Motion_none => k_is)
    (case k_Motion_none => k_is)
    (case l__law_signs => k_is)
    (case c__law_signs => k_is)
    (case k__law_signs => k_is)
    (case l_Motion_turning => k_is)
    (case c_Motion_turning => k_is)
    (case k_Motion_turning => k_is)
    (case lt_Motion_turning => k_is)
    (case l_Motion_at => k_is)
    (case c_Motion_at => k_is)
    (case k_Motion_at => k_is)
    (case l_Motion_measure => k_is)
    (case c_Motion_measure => k_is)
    (case k_Motion_measure => k_is)
    (case l_Force_about => k_is)
    (case c_Force_about => k_is)
    (case k_Force_about => k_is)
    (case l_Force_acting => k_is)
    (case c_Force_acting => k_is)
    (case k_Force_acting => k_is)
    (case l__law_points => k_is)
    (case c__law_points => k_is)
    (case k__law_points => k_is)
    (case l__law_bag => k_is)
    (case c__law_bag => k_is)
    (case k__law_bag => k_is)
    (case l_ratio => k_is)
    (case c_ratio => k_is)
    (case k_ratio => k_is)
    (case l_Motion_measure_of => k_is)
    (case c_Motion_measure_of => k_is)
    (case k_Motion_measure_of => k_is)
    (case l_Thrust___init__ => k_is)
    (case c_Thrust___init__ => k_is)
    (case k_Thrust___init__ => k_is)
    (case lt_Thrust___init__ => k_is)
    (case l_law => k_is)
    (case c_law => k_is)
    (case k_law => k_is)
    (case pg_Motion => k_is)
    (case hd_Motion => k_is)
    (case po_Motion => k_is)
    (case sa_Motion => k_is)
    (case na_Motion_up => k_is)
    (case na_Motion_across => k_is)
    (case na_Motion_turn => k_is)
    (case pg_Force => k_is)
    (case hd_Force => k_is)
    (case po_Force => k_is)
    (case sa_Force => k_is)
    (case na_Force_up => k_is)
    (case na_Force_across => k_is)
    (case na_Force_moment => k_is)
    (case pg_Thrust => k_is)
    (case hd_Thrust => k_is)
    (case po_Thrust => k_is)
    (case sa_Thrust => k_is)
    (case na_Thrust_parts => k_is)
    (case na_Thrust_force => k_is)
    (case mk_Motion => k_is)
    (case fn_Motion___init__ => k_is)
    (case kc_Motion => k_is)
    (case mk_Force => k_is)
    (case fn_Force___init__ => k_is)
    (case kc_Force => k_is)
    (case mk_Thrust => k_is)
    (case fn_Thrust___init__ => k_is)
    (case kc_Thrust => k_is)
    (case sf_Motion => k_is)
    (case fn_Motion___add__ => k_is)
    (case fn_Motion___sub__ => k_is)
    (case fn_Motion___mul__ => k_is)
    (case or_Motion___mul__ => k_is)
    (case o1_Motion___mul__ => k_is)
    (case o2_Motion___mul__ => k_is)
    (case o3_Motion___mul__ => k_is)
    (case fn_Motion___neg__ => k_is)
    (case fn_Motion___eq__ => k_is)
    (case nq_Motion_NoneType => k_is)
    (case nq_Motion_bool => k_is)
    (case nq_Motion_int => k_is)
    (case nq_Motion_str => k_is)
    (case nq_Motion_list => k_is)
    (case nq_Motion_tuple => k_is)
    (case nq_Motion_Motion => k_is)
    (case nq_Motion_Force => k_is)
    (case nq_Motion_Thrust => k_is)
    (case pp_Motion_is_none => k_is)
    (case pt_Motion_is_none => k_is)
    (case cr_Motion_none => k_is)
    (case cg_Motion_none => k_is)
    (case ci_Motion_none => k_is)
    (case cr_Motion_turning => k_is)
    (case cg_Motion_turning => k_is)
    (case ci_Motion_turning => k_is)
    (case cr_Force_acting => k_is)
    (case cg_Force_acting => k_is)
    (case ci_Force_acting => k_is)
    (case fn_Motion_at => k_is)
    (case fn_Motion_measure => k_is)
    (case fn_Force_about => k_is)
    (case fn_Motion_measure_of => k_is)
    (case x1_BadRatio => k_is)
    (case x2_BadRatio => decide +kernel)
    (case x3_BadRatio => k_is)
    (case x4_BadRatio => k_is)
    (case x5_BadRatio => k_is)
    (case x6_BadRatio => k_is)
    (case x8_BadRatio => k_is)
    (case li_BadRatio => k_is)
    (case cdi_BadRatio_ => k_is)
    (case ki_BadRatio => k_is)
    (case x1_BadForce => k_is)
    (case x2_BadForce => decide +kernel)
    (case x3_BadForce => k_is)
    (case x4_BadForce => k_is)
    (case x5_BadForce => k_is)
    (case x6_BadForce => k_is)
    (case x8_BadForce => k_is)
    (case li_BadForce => k_is)
    (case cdi_BadForce_ => k_is)
    (case ki_BadForce => k_is)
    (case xn_BadForce_what => k_is)
    (case x1_BadThrust => k_is)
    (case x2_BadThrust => decide +kernel)
    (case x3_BadThrust => k_is)
    (case x4_BadThrust => k_is)
    (case x5_BadThrust => k_is)
    (case x6_BadThrust => k_is)
    (case x8_BadThrust => k_is)
    (case li_BadThrust => k_is)
    (case cdi_BadThrust_ => k_is)
    (case ki_BadThrust => k_is)
    (case x1_BadMotion => k_is)
    (case x2_BadMotion => decide +kernel)
    (case x3_BadMotion => k_is)
    (case x4_BadMotion => k_is)
    (case x5_BadMotion => k_is)
    (case x6_BadMotion => k_is)
    (case x8_BadMotion => k_is)
    (case li_BadMotion => k_is)
    (case cdi_BadMotion_ => k_is)
    (case ki_BadMotion => k_is)
    (case e1_BridgeError => k_is)
    (case e2_BridgeError => k_is)
    (case e3_BridgeError => k_is)
    (case es_BadRatio_BridgeError => k_is)
    (case es_BadForce_BridgeError => k_is)
    (case es_BadThrust_BridgeError => k_is)
    (case es_BadMotion_BridgeError => k_is)
    (case y1_BadForce => k_is)
    (case y2_BadForce => k_is)
    (case y3_BadForce => k_is)
    (case y4_BadForce => k_is)
    (case y5_BadForce => k_is)
    (case y6_BadForce => k_is)
    (case y7_BadForce => k_is)
    (case y8_BadForce => k_is)
    (case y1_BadMotion => k_is)
    (case y2_BadMotion => k_is)
    (case y3_BadMotion => k_is)
    (case y4_BadMotion => k_is)
    (case y5_BadMotion => k_is)
    (case y6_BadMotion => k_is)
    (case y7_BadMotion => k_is)
    (case y8_BadMotion => k_is)
    (case y1_BadRatio => k_is)
    (case y2_BadRatio => k_is)
    (case y3_BadRatio => k_is)
    (case y4_BadRatio => k_is)
    (case y5_BadRatio => k_is)
    (case y6_BadRatio => k_is)
    (case y7_BadRatio => k_is)
    (case y8_BadRatio => k_is)
    (case y1_BadThrust => k_is)
    (case y2_BadThrust => k_is)
    (case y3_BadThrust => k_is)
    (case y4_BadThrust => k_is)
    (case y5_BadThrust => k_is)
    (case y6_BadThrust => k_is)
    (case y7_BadThrust => k_is)
    (case y8_BadThrust => k_is)
    (case hq_BadMotion => k_is)
    (case hty_BadMotion => k_is)
    (case sb_BadForce_BadMotion => k_is)
    (case ne_BadForce_BadMotion => decide)
    (case hq_BadWeights => k_is)
    (case hty_BadWeights => k_is)
    (case sb_BadForce_BadWeights => k_is)
    (case ne_BadForce_BadWeights => decide)
    (case sb_BadForce_ValueError => k_is)
    (case sb_BadMotion_BadWeights => k_is)
    (case ne_BadMotion_BadWeights => decide)
    (case sb_BadMotion_ValueError => k_is)
    (case sb_BadRatio_BadMotion => k_is)
    (case ne_BadRatio_BadMotion => decide)
    (case sb_BadRatio_BadWeights => k_is)
    (case ne_BadRatio_BadWeights => decide)
    (case sb_BadRatio_ValueError => k_is)
    (case sb_BadThrust_BadMotion => k_is)
    (case ne_BadThrust_BadMotion => decide)
    (case sb_BadThrust_BadWeights => k_is)
    (case ne_BadThrust_BadWeights => decide)
    (case sb_BadThrust_ValueError => k_is)
    (case hq_Motion => k_is)
    (case hty_Motion => k_is)
    (case sb_Force_Motion => k_is)
    (case ne_Force_Motion => decide)
    (case sb_Force_bool => k_is)
    (case sb_Force_int => k_is)
    (case sb_Force_tuple => k_is)
    (case hq_Force => k_is)
    (case hty_Force => k_is)
    (case sb_Motion_Force => k_is)
    (case ne_Motion_Force => decide)
    (case sb_Motion_bool => k_is)
    (case sb_Motion_int => k_is)
    (case sb_Motion_tuple => k_is)
    (case sb_NoneType_Force => k_is)
    (case sb_NoneType_Motion => k_is)
    (case sb_Thrust_Force => k_is)
    (case ne_Thrust_Force => decide)
    (case sb_Thrust_Motion => k_is)
    (case ne_Thrust_Motion => decide)
    (case sb_Thrust_bool => k_is)
    (case sb_Thrust_int => k_is)
    (case sb_Thrust_tuple => k_is)
    (case sb_bool_Force => k_is)
    (case sb_bool_Motion => k_is)
    (case sb_int_Force => k_is)
    (case sb_int_Motion => k_is)
    (case sb_list_Force => k_is)
    (case sb_list_Motion => k_is)
    (case sb_str_Force => k_is)
    (case sb_str_Motion => k_is)
    (case sb_tuple_Force => k_is)
    (case sb_tuple_Motion => k_is)
    (case y5_Force => k_is)
    (case y6_Force => k_is)
    (case y7_Force => k_is)
    (case y8_Force => k_is)
    (case y5_Motion => k_is)
    (case y6_Motion => k_is)
    (case y7_Motion => k_is)
    (case y8_Motion => k_is)
    (case y5_Thrust => k_is)
    (case y6_Thrust => k_is)
    (case y7_Thrust => k_is)
    (case y8_Thrust => k_is)
    (case z_ValueError => k_is)
    (case z_abs => k_is)
    (case z_bool => k_is)
    (case z_enumerate => k_is)
    (case z_int => k_is)
    (case z_isinstance => k_is)
    (case z_len => k_is)
    (case z_list => k_is)
    (case z_tuple => k_is)
    (case zi_gcd => k_is)

