import PyProof.Rows.All
import Wide.All
import OpenK.AllK
import Wide.FinOn
import HandS.ForMost
import HandS.Exc
import HandS.TryOnly
import HandS.ExcOwn
import HandS.WordsExc
import HandS.ExcInit
import HandS.ExcIs
import HandS.ExcField
import HandS.Wide
import HandS.Gcd
import HandS.IsInst
import HandS.Style
import HandS.Flow
import HandS.Conv
import HandS.ClsMeth
import HandS.Property
import HandS.CallSlots
import KE.KOpsOwn
import HandS.Defaults
import KE.KExcIs
import PyProof.InstNe
import HandS.TupAny
import PySem.Challenge.RW_fourhinges_k02_forces_and_moments
set_option Elab.async false
set_option linter.all false
set_option maxRecDepth 100000
set_option maxHeartbeats 4000000
/-! ## Trees: data as plain values, a program's defs as plain functions over them -/
namespace Tw
open PySem L2

inductive D where
  | non | bl (b : Bool) | int (i : Int) | str (x : Str) | ty (n : String) | cls (n : Nat)
  | lst (xs : List D) | tup (xs : List D) | ins (n : Nat) (ns : List Str) (xs : List D) | err (c : Nat) (ns : List Str) (xs : List D) | pen | bag | self

mutual
/-- neither the exception that is handled nor the object that is being made -/
def clear : D → Bool
  | .err _ _ _ => false
  | .self => false
  | .lst xs => clearL xs
  | .tup xs => clearL xs
  | .ins _ _ xs => clearL xs
  | .non => true
  | .bl _ => true
  | .int _ => true
  | .str _ => true
  | .ty _ => true
  | .cls _ => true
  | .pen => true
  | .bag => true
def clearL : List D → Bool
  | [] => true
  | d :: ds => clear d && clearL ds
end
/-- the state of the pen -/
structure Pen where
  cells : List Int
  next : Nat
  digits : Int
  rest : Int
  seed : Int
  turn : Int
  obj : List (Str × D) := []
  ocls : Nat := 0

inductive Out (α : Type) where
  | ok (a : α) (s : Pen)
  | exc (c : Nat) (ns : List Str) (xs : List D) (s : Pen)
  | bad

abbrev M (α : Type) := Pen → Out α
def mret {α : Type} (a : α) : M α := fun s => .ok a s
def mbad {α : Type} : M α := fun _ => .bad
def obind {α β : Type} (o : Out α) (f : α → M β) : Out β := match o with
  | .ok a s' => f a s'
  | .exc c ns xs s' => .exc c ns xs s'
  | .bad => .bad
def mbind {α β : Type} (m : M α) (f : α → M β) : M β := fun s => obind (m s) f

/-- the pen's address; an object that is being made: its address, class and dict; the addresses that no tree may name -/
structure Fm where
  pen : Option (Addr × Bool)
  obj : Option (Addr × Nat × Addr)
  out : Addr → Prop
  okp : ∀ a k, pen = some (a, k) → out a
  oko : ∀ x c d, obj = some (x, c, d) → out x
  neo : ∀ a k x c d, pen = some (a, k) → obj = some (x, c, d) → x ≠ a
/-- what may change while others look on -/
def Fm.mut (p : Fm) (a : Addr) : Prop := (∃ k, p.pen = some (a, k)) ∨ ∃ c d, p.obj = some (a, c, d)
theorem Fm.no {p : Fm} {a : Addr} (h : ¬ p.out a) : ¬ p.mut a := fun z => z.elim (fun ⟨k, e⟩ => h (p.okp a k e)) fun ⟨c, d, e⟩ => h (p.oko a c d e)
/-- the classes' addresses; the exception that is being handled: where it stands, its class, its dict -/
structure Gt where
  cls : Nat → Addr
  err : Option (Addr × Nat × Option Addr)
abbrev Gt.bare (G : Gt) : Gt := ⟨G.cls, none⟩
section
variable (G : Gt)
mutual
def Rep (p : Fm) (H : Hp) : D → V → Prop
  | .non, v => v = .non
  | .bl b, v => v = .bl b
  | .int i, v => v = .int i
  | .str x, v => v = .str x
  | .ty n, v => v = .ty n
  | .cls n, v => v = .ref (G.cls n)
  | .pen, v => ∃ a, p.pen = some (a, false) ∧ v = .ref a
  | .bag, v => ∃ a, p.pen = some (a, true) ∧ v = .ref a
  | .self, v => ∃ a c d, p.obj = some (a, c, d) ∧ v = .ref a
  | .lst ds, v => ∃ a vs, v = .ref a ∧ ¬ p.out a ∧ H a = some (.lst vs) ∧ RepL p H ds vs
  | .tup ds, v => ∃ a vs, v = .ref a ∧ ¬ p.out a ∧ H a = some (.tup vs) ∧ RepL p H ds vs
  | .err c ns ds, v => ∃ a dd vs, v = .ref a ∧ G.err = some (a, c, dd) ∧ RepL p H ds vs ∧ ((ns = [] ∧ dd = none) ∨ ∃ b gs, ns ≠ [] ∧ dd = some b ∧ ¬ p.out b ∧ H b = some (.xd gs) ∧ ∀ (i : Nat) (f : Str) (v : V), ns[i]? = some f → vs[i]? = some v → gs.lookup f = some v)
  | .ins n ns ds, v => ∃ a dx vs, v = .ref a ∧ ¬ p.out a ∧ H a = some (.ins (G.cls n) dx (ns.zip vs)) ∧ ns.length = vs.length ∧ RepL p H ds vs
def RepL (p : Fm) (H : Hp) : List D → List V → Prop
  | [], vs => vs = []
  | d :: ds, vs => ∃ v r, vs = v :: r ∧ Rep p H d v ∧ RepL p H ds r
end

def penKV (c : Addr) (s : Pen) : List (Key × V) :=
  [(Sum.inr "cells", .ref c), (Sum.inr "next", .int s.next), (Sum.inr "digits", .int s.digits), (Sum.inr "rest", .int s.rest), (Sum.inr "seed", .int s.seed), (Sum.inr "turn", .int s.turn)]
def PenR (p : Fm) (H : Hp) (a : Addr) (k : Bool) (s : Pen) : Prop := (k = true ∧ H a = some (.lst [.int s.rest, .int s.seed, .int s.turn])) ∨
  (k = false ∧ ∃ c, ¬ p.out c ∧ H a = some (.dK (penKV c s)) ∧ H c = some (.lst (s.cells.map V.int)))
/-- what stands where an object is being made: an instance, or a list that grows (class number gro) -/
def gro : Nat := 1000000
def objO (c : Nat) (dx : Addr) (ns : List Str) (vs : List V) : HO := if c = gro then .lst vs else .ins (G.cls c) dx (ns.zip vs)
def PenOk (p : Fm) (H : Hp) (s : Pen) : Prop := (∀ a k, p.pen = some (a, k) → PenR p H a k s) ∧
  (∀ x c dx, p.obj = some (x, c, dx) → ∃ vs, H x = some (objO G c dx (s.obj.map (·.1)) vs) ∧ (s.obj.length = vs.length ∧ clearL (s.obj.map (·.2)) = true ∧ c = s.ocls) ∧ RepL (Gt.bare G) p H (s.obj.map (·.2)) vs) ∧ ∀ a, p.out a → ∃ o, H a = some o
/-- all stands but the pen -/
def Keep (p : Fm) (H H' : Hp) : Prop := ∀ a o, ¬ p.mut a → H a = some o → H' a = some o
/-- an exception's own dict -/
def ExcOk (p : Fm) (H : Hp) (ns : List Str) (xs : List D) (dd : Option Addr) : Prop :=
  ∃ vs, RepL G p H xs vs ∧ ((ns = [] ∧ dd = none) ∨ ∃ b gs, ns ≠ [] ∧ dd = some b ∧ ¬ p.out b ∧ H b = some (.xd gs) ∧ ∀ (i : Nat) (f : Str) (v : V), ns[i]? = some f → vs[i]? = some v → gs.lookup f = some v)
end

theorem Keep.refl {p : Fm} {H : Hp} : Keep p H H := fun _ _ _ h => h
theorem Keep.trans {p : Fm} {H H1 H2 : Hp} (a : Keep p H H1) (b : Keep p H1 H2) : Keep p H H2 := fun x o n h => b x o n (a x o n h)
theorem Keep.new {p : Fm} {H : Hp} {a : Addr} {o : HO} (h : H a = none) : Keep p H (upd H a o) := fun b u _ e => by
  rw [upd_ne (ne_of_none e h)]; exact e

section
variable {K : PySem.W.Frag} {G : Gt} {p : Fm} {H H' : Hp}
def PenAt (_ : Fm) (_ : Hp) : Prop := True
theorem PenOk.at {s : Pen} (_ : PenOk G p H s) : PenAt p H := trivial
theorem PenOk.free {s : Pen} (h : PenOk G p H s) {a : Addr} (n : H a = none) : ¬ p.out a := fun z => by
  obtain ⟨o, e⟩ := h.2.2 a z
  rw [n] at e
  cases e
mutual
theorem rep_keep (h : PenAt p H) (k : Keep p H H') : ∀ (d : D) (v : V), Rep G p H d v → Rep G p H' d v
  | .non, _, q => q
  | .bl _, _, q => q
  | .int _, _, q => q
  | .str _, _, q => q
  | .ty _, _, q => q
  | .cls _, _, q => q
  | .pen, _, q => q
  | .bag, _, q => q
  | .self, _, q => q
  | .lst ds, v, q => by
    obtain ⟨a, vs, e, q0, q1, q2⟩ := q
    exact ⟨a, vs, e, q0, k _ _ (Fm.no q0) q1, repL_keep h k ds vs q2⟩
  | .tup ds, v, q => by
    obtain ⟨a, vs, e, q0, q1, q2⟩ := q
    exact ⟨a, vs, e, q0, k _ _ (Fm.no q0) q1, repL_keep h k ds vs q2⟩
  | .err c ns ds, v, q => by
    obtain ⟨a, dd, vs, e, q0, q2, q3⟩ := q
    refine ⟨a, dd, vs, e, q0, repL_keep h k ds vs q2, ?_⟩
    rcases q3 with q3 | ⟨b, gs, e0, e1, e2, e3, e4⟩
    · exact .inl q3
    · exact .inr ⟨b, gs, e0, e1, e2, k _ _ (Fm.no e2) e3, e4⟩
  | .ins n ns ds, v, q => by
    obtain ⟨a, dx, vs, e, q0, q1, q3, q2⟩ := q
    exact ⟨a, dx, vs, e, q0, k _ _ (Fm.no q0) q1, q3, repL_keep h k ds vs q2⟩
theorem repL_keep (h : PenAt p H) (k : Keep p H H') : ∀ (ds : List D) (vs : List V), RepL G p H ds vs → RepL G p H' ds vs
  | [], _, q => q
  | d :: ds, vs, q => by
    obtain ⟨v, r, e, q1, q2⟩ := q
    exact ⟨v, r, e, rep_keep h k d v q1, repL_keep h k ds r q2⟩
end
/-! another frame -/
mutual
theorem rep_out {q : Fm} (hp : q.pen = p.pen) (hb : q.obj = p.obj) (ho : ∀ a o, H a = some o → ¬ p.out a → ¬ q.out a) : ∀ (d : D) (v : V), Rep G p H d v → Rep G q H d v
  | .non, _, h => h
  | .bl _, _, h => h
  | .int _, _, h => h
  | .str _, _, h => h
  | .ty _, _, h => h
  | .cls _, _, h => h
  | .pen, _, h => by obtain ⟨a, e, z⟩ := h; exact ⟨a, hp.trans e, z⟩
  | .bag, _, h => by obtain ⟨a, e, z⟩ := h; exact ⟨a, hp.trans e, z⟩
  | .self, _, h => by obtain ⟨a, c, d, e, z⟩ := h; exact ⟨a, c, d, hb.trans e, z⟩
  | .lst ds, v, h => by
    obtain ⟨a, vs, e, q0, q1, q2⟩ := h
    exact ⟨a, vs, e, ho _ _ q1 q0, q1, repL_out hp hb ho ds vs q2⟩
  | .tup ds, v, h => by
    obtain ⟨a, vs, e, q0, q1, q2⟩ := h
    exact ⟨a, vs, e, ho _ _ q1 q0, q1, repL_out hp hb ho ds vs q2⟩
  | .err c ns ds, v, h => by
    obtain ⟨a, dd, vs, e, q0, q2, q3⟩ := h
    refine ⟨a, dd, vs, e, q0, repL_out hp hb ho ds vs q2, ?_⟩
    rcases q3 with q3 | ⟨b, gs, e0, e1, e2, e3, e4⟩
    · exact .inl q3
    · exact .inr ⟨b, gs, e0, e1, ho _ _ e3 e2, e3, e4⟩
  | .ins n ns ds, v, h => by
    obtain ⟨a, dx, vs, e, q0, q1, q3, q2⟩ := h
    exact ⟨a, dx, vs, e, ho _ _ q1 q0, q1, q3, repL_out hp hb ho ds vs q2⟩
theorem repL_out {q : Fm} (hp : q.pen = p.pen) (hb : q.obj = p.obj) (ho : ∀ a o, H a = some o → ¬ p.out a → ¬ q.out a) : ∀ (ds : List D) (vs : List V), RepL G p H ds vs → RepL G q H ds vs
  | [], _, h => h
  | d :: ds, vs, h => by
    obtain ⟨v, r, e, q1, q2⟩ := h
    exact ⟨v, r, e, rep_out hp hb ho d v q1, repL_out hp hb ho ds r q2⟩
end
/-! a change at an address that no tree names -/
mutual
theorem rep_upd {a0 : Addr} {o0 : HO} (ha : p.out a0) : ∀ (d : D) (v : V), Rep G p H d v → Rep G p (upd H a0 o0) d v
  | .non, _, h => h
  | .bl _, _, h => h
  | .int _, _, h => h
  | .str _, _, h => h
  | .ty _, _, h => h
  | .cls _, _, h => h
  | .pen, _, h => h
  | .bag, _, h => h
  | .self, _, h => h
  | .lst ds, v, h => by
    obtain ⟨a, vs, e, q0, q1, q2⟩ := h
    exact ⟨a, vs, e, q0, by rw [upd_ne (fun z => q0 (by rw [z]; exact ha))]; exact q1, repL_upd ha ds vs q2⟩
  | .tup ds, v, h => by
    obtain ⟨a, vs, e, q0, q1, q2⟩ := h
    exact ⟨a, vs, e, q0, by rw [upd_ne (fun z => q0 (by rw [z]; exact ha))]; exact q1, repL_upd ha ds vs q2⟩
  | .err c ns ds, v, h => by
    obtain ⟨a, dd, vs, e, q0, q2, q3⟩ := h
    refine ⟨a, dd, vs, e, q0, repL_upd ha ds vs q2, ?_⟩
    rcases q3 with q3 | ⟨b, gs, e0, e1, e2, e3, e4⟩
    · exact .inl q3
    · exact .inr ⟨b, gs, e0, e1, e2, by rw [upd_ne (fun z => e2 (by rw [z]; exact ha))]; exact e3, e4⟩
  | .ins n ns ds, v, h => by
    obtain ⟨a, dx, vs, e, q0, q1, q3, q2⟩ := h
    exact ⟨a, dx, vs, e, q0, by rw [upd_ne (fun z => q0 (by rw [z]; exact ha))]; exact q1, q3, repL_upd ha ds vs q2⟩
theorem repL_upd {a0 : Addr} {o0 : HO} (ha : p.out a0) : ∀ (ds : List D) (vs : List V), RepL G p H ds vs → RepL G p (upd H a0 o0) ds vs
  | [], _, h => h
  | d :: ds, vs, h => by
    obtain ⟨v, r, e, q1, q2⟩ := h
    exact ⟨v, r, e, rep_upd ha d v q1, repL_upd ha ds r q2⟩
end
/-! clear data, whatever is made or handled -/
mutual
theorem rep_move {G' : Gt} {q : Fm} (hc : G'.cls = G.cls) (hp : q.pen = p.pen) (ho : ∀ a o, H a = some o → ¬ p.out a → ¬ q.out a) : ∀ (d : D) (v : V), clear d = true → Rep G p H d v → Rep G' q H d v
  | .non, _, _, h => h
  | .bl _, _, _, h => h
  | .int _, _, _, h => h
  | .str _, _, _, h => h
  | .ty _, _, _, h => h
  | .cls n, v, _, h => by show v = .ref (G'.cls n); rw [hc]; exact h
  | .pen, _, _, h => by obtain ⟨a, e, z⟩ := h; exact ⟨a, hp.trans e, z⟩
  | .bag, _, _, h => by obtain ⟨a, e, z⟩ := h; exact ⟨a, hp.trans e, z⟩
  | .self, _, e, _ => by cases e
  | .err _ _ _, _, e, _ => by cases e
  | .lst ds, v, e, h => by
    obtain ⟨a, vs, e1, q0, q1, q2⟩ := h
    exact ⟨a, vs, e1, ho _ _ q1 q0, q1, repL_move hc hp ho ds vs e q2⟩
  | .tup ds, v, e, h => by
    obtain ⟨a, vs, e1, q0, q1, q2⟩ := h
    exact ⟨a, vs, e1, ho _ _ q1 q0, q1, repL_move hc hp ho ds vs e q2⟩
  | .ins n ns ds, v, e, h => by
    obtain ⟨a, dx, vs, e1, q0, q1, q3, q2⟩ := h
    exact ⟨a, dx, vs, e1, ho _ _ q1 q0, by rw [hc]; exact q1, q3, repL_move hc hp ho ds vs e q2⟩
theorem repL_move {G' : Gt} {q : Fm} (hc : G'.cls = G.cls) (hp : q.pen = p.pen) (ho : ∀ a o, H a = some o → ¬ p.out a → ¬ q.out a) : ∀ (ds : List D) (vs : List V), clearL ds = true → RepL G p H ds vs → RepL G' q H ds vs
  | [], _, _, h => h
  | d :: ds, vs, e, h => by
    obtain ⟨v, r, e1, q1, q2⟩ := h
    have e' : (clear d && clearL ds) = true := e
    rw [Bool.and_eq_true] at e'
    exact ⟨v, r, e1, rep_move hc hp ho d v e'.1 q1, repL_move hc hp ho ds r e'.2 q2⟩
end
theorem PenR.keep {s : Pen} {a : Addr} {kd : Bool} (h : PenR p H a kd s) (ha : H' a = H a) (k : ∀ c o, ¬ p.out c → H c = some o → H' c = some o) : PenR p H' a kd s := by
  rcases h with ⟨e, h⟩ | ⟨e, c, h0, h1, h2⟩
  · exact .inl ⟨e, ha.trans h⟩
  · exact .inr ⟨e, c, h0, ha.trans h1, k c _ h0 h2⟩
/-- a new object leaves the pen -/
theorem PenOk.new {s : Pen} (h : PenOk G p H s) {a : Addr} {o : HO} (n : H a = none) : PenOk G p (upd H a o) s := by
  have hk : Keep p H (upd H a o) := Keep.new n
  have same : ∀ b, p.out b → upd H a o b = H b := fun b hb => upd_ne (fun z => h.free n (by rw [← z]; exact hb))
  refine ⟨fun b kd e => (h.1 b kd e).keep (same b (p.okp b kd e)) fun c u _ hc => by rw [upd_ne (ne_of_none hc n)]; exact hc, fun x c dx e => ?_, fun b hb => ?_⟩
  · obtain ⟨vs, h1, hl, h2⟩ := h.2.1 x c dx e
    exact ⟨vs, (same x (p.oko x c dx e)).trans h1, hl, repL_keep trivial hk _ _ h2⟩
  · obtain ⟨u, h1⟩ := h.2.2 b hb
    exact ⟨u, (same b hb).trans h1⟩
theorem repL_len : ∀ {ds : List D} {vs : List V}, RepL G p H ds vs → ds.length = vs.length
  | [], vs, q => by rw [(show vs = [] from q)]; rfl
  | d :: ds, vs, q => by
    obtain ⟨v, r, e, _, q2⟩ := q
    subst e
    rw [List.length_cons, List.length_cons, repL_len q2]
theorem repL_get : ∀ {ds : List D} {vs : List V} {i : Nat} {d : D}, RepL G p H ds vs → ds[i]? = some d → ∃ v, vs[i]? = some v ∧ Rep G p H d v
  | [], _, i, d, _, e => by simp at e
  | d :: ds, vs, 0, x, q, e => by
    obtain ⟨v, r, rfl, q1, _⟩ := q
    simp at e; subst e
    exact ⟨v, rfl, q1⟩
  | d :: ds, vs, i + 1, x, q, e => by
    obtain ⟨v, r, rfl, _, q2⟩ := q
    obtain ⟨u, h1, h2⟩ := repL_get (i := i) q2 (by simpa using e)
    exact ⟨u, by simpa using h1, h2⟩
theorem repL_get' : ∀ {ds : List D} {vs : List V} {i : Nat} {v : V}, RepL G p H ds vs → vs[i]? = some v → ∃ d, ds[i]? = some d ∧ Rep G p H d v := fun {ds vs i v} q e => by
  have hl := repL_len q
  obtain ⟨h1, _⟩ := List.getElem?_eq_some_iff.mp e
  have h2 : ds[i]? = some (ds[i]'(by omega)) := List.getElem?_eq_some_iff.mpr ⟨by omega, rfl⟩
  obtain ⟨u, h3, h4⟩ := repL_get q h2
  rw [e] at h3; cases h3
  exact ⟨_, h2, h4⟩
theorem repL_app : ∀ {ds es : List D} {vs us : List V}, RepL G p H ds vs → RepL G p H es us → RepL G p H (ds ++ es) (vs ++ us)
  | [], es, vs, us, q, q' => by rw [(show vs = [] from q)]; exact q'
  | d :: ds, es, vs, us, q, q' => by
    obtain ⟨v, r, rfl, q1, q2⟩ := q
    exact ⟨v, r ++ us, rfl, q1, repL_app q2 q'⟩

abbrev Loc := List (Option D)
/-- the slots -/
def EnvOk (G : Gt) (p : Fm) (H : Hp) (σ : St) (ρ : Loc) : Prop :=
  σ.length = ρ.length ∧ ∀ (i : Nat) (d : D), ρ[i]? = some (some d) → ∃ v, σ[i]? = some (some v) ∧ Rep G p H d v
theorem EnvOk.keep {σ : St} {ρ : Loc} (h : PenAt p H) (k : Keep p H H') (e : EnvOk G p H σ ρ) : EnvOk G p H' σ ρ :=
  ⟨e.1, fun i d q => let ⟨v, h1, h2⟩ := e.2 i d q; ⟨v, h1, rep_keep h k d v h2⟩⟩
theorem EnvOk.set {σ : St} {ρ : Loc} {i : Nat} {d : D} {v : V} (e : EnvOk G p H σ ρ) (q : Rep G p H d v) : EnvOk G p H (σ.set i (some v)) (ρ.set i (some d)) := by
  refine ⟨by simp [e.1], fun j x hx => ?_⟩
  rw [List.getElem?_set] at hx
  by_cases hij : i = j
  · subst hij
    simp only [if_true] at hx
    by_cases hl : i < ρ.length
    · rw [if_pos hl] at hx
      have hx' : d = x := by simpa using hx
      subst hx'
      exact ⟨v, by rw [List.getElem?_set]; simp [e.1, hl], q⟩
    · rw [if_neg hl] at hx; cases hx
  · rw [if_neg hij] at hx
    obtain ⟨u, h1, h2⟩ := e.2 j x hx
    exact ⟨u, by rw [List.getElem?_set, if_neg hij]; exact h1, h2⟩

/-- what is wanted of an outcome -/
def FinG {α β : Type} (G : Gt) (W : WX) (Rel : Fm → Hp → α → β → Prop) (p : Fm) (σ : St) (H : Hp) (Q : β → Hp → Prop) : Out α → Prop
  | .ok a s => ∀ b H', Keep p H H' → PenOk G p H' s → Rel p H' a b → Q b H'
  | .exc c ns xs s => ∀ dd H', Keep p H H' → PenOk G p H' s → ExcOk G p H' ns xs dd → W (.ref (G.cls c)) dd σ H'
  | .bad => False
theorem FinG.keep {α β : Type} {W : WX} {Rel : Fm → Hp → α → β → Prop} {σ : St} {Q : β → Hp → Prop} {o : Out α} (k : Keep p H H') (h : FinG G W Rel p σ H Q o) : FinG G W Rel p σ H' Q o := by
  cases o with
  | ok a s => exact fun b H2 k2 => h b H2 (k.trans k2)
  | exc c ns xs s => exact fun dd H2 k2 => h dd H2 (k.trans k2)
  | bad => exact h
/-- the reading t does what m says -/
def RunG {α β : Type} (G : Gt) (W : WX) (Rel : Fm → Hp → α → β → Prop) (t : St → Hp → (β → Hp → Prop) → Prop) (m : Loc → M α) : Prop :=
  ∀ (p : Fm) (σ : St) (H : Hp) (ρ : Loc) (s : Pen) (Q : β → Hp → Prop), EnvOk G p H σ ρ → PenOk G p H s → FinG G W Rel p σ H Q (m ρ s) → t σ H Q
abbrev RelE (G : Gt) : Fm → Hp → D → V → Prop := fun p H d v => Rep G p H d v
abbrev RelB : Fm → Hp → Bool → Bool → Prop := fun _ _ a b => b = a
abbrev RelA (G : Gt) : Fm → Hp → List D → List V → Prop := fun p H ds vs => RepL G p H ds vs
abbrev RunE (G : Gt) (W : WX) (t : TE) (m : Loc → M D) : Prop := RunG G W (RelE G) t m
abbrev RunT (G : Gt) (W : WX) (t : TT) (m : Loc → M Bool) : Prop := RunG G W RelB t m
abbrev RunA (G : Gt) (W : WX) (t : TA) (m : Loc → M (List D)) : Prop := RunG G W (RelA G) t m

/-- one reading behind another -/
theorem RunG.bind {α β γ δ : Type} {W : WX} {RA : Fm → Hp → α → β → Prop} {RC : Fm → Hp → γ → δ → Prop} {ta : St → Hp → (β → Hp → Prop) → Prop} {tb : β → St → Hp → (δ → Hp → Prop) → Prop} {f : Loc → M α} {g : Loc → α → M γ}
    (ha : RunG G W RA ta f)
    (hb : ∀ (p : Fm) (σ : St) (H : Hp) (ρ : Loc) (s : Pen) (a : α) (b : β) (Q : δ → Hp → Prop), EnvOk G p H σ ρ → PenOk G p H s → RA p H a b → FinG G W RC p σ H Q (g ρ a s) → tb b σ H Q) :
    RunG G W RC (fun σ H Q => ta σ H fun x H1 => tb x σ H1 Q) (fun ρ => mbind (f ρ) (g ρ)) := by
  intro p σ H ρ s Q e pk fin
  refine ha p σ H ρ s _ e pk ?_
  have fin : FinG G W RC p σ H Q (obind (f ρ s) (g ρ)) := fin
  cases h : f ρ s with
  | ok a s' =>
    rw [h] at fin
    exact fun b H1 k pk1 r => hb p σ H1 ρ s' a b Q (e.keep pk.at k) pk1 r (fin.keep k)
  | exc c ns xs s' =>
    rw [h] at fin
    exact fun dd H1 k pk1 x => fin dd H1 k pk1 x
  | bad =>
    rw [h] at fin
    exact fin
end
end Tw

set_option Elab.async false
set_option linter.all false
set_option maxRecDepth 100000
set_option maxHeartbeats 4000000
namespace Tw
open PySem L2
section
variable {K : PySem.W.Frag} {G : Gt} {W : WX} {X : Cx}

theorem FinG.step {α β γ δ : Type} {RA : Fm → Hp → α → β → Prop} {RC : Fm → Hp → γ → δ → Prop} {p : Fm} {σ : St} {H : Hp} {s : Pen} {Q : δ → Hp → Prop} {R : β → Hp → Prop} {f : M α} {g : α → M γ}
    (fin : FinG G W RC p σ H Q (mbind f g s))
    (hb : ∀ a s1 b H1, Keep p H H1 → PenOk G p H1 s1 → RA p H1 a b → FinG G W RC p σ H1 Q (g a s1) → R b H1) : FinG G W RA p σ H R (f s) := by
  have fin : FinG G W RC p σ H Q (obind (f s) g) := fin
  cases h : f s with
  | ok a s1 => rw [h] at fin; exact fun b H1 k pk r => hb a s1 b H1 k pk r (FinG.keep k fin)
  | exc c ns xs s1 => rw [h] at fin; exact fin
  | bad => rw [h] at fin; exact fin

structure DE (G : Gt) (X : Cx) (W : WX) (e : Expr) (t : TE) (m : Loc → M D) : Prop where
  pe : PE X e t
  run : RunG G W (RelE G) t m
structure DT (G : Gt) (X : Cx) (W : WX) (e : Expr) (t : TT) (m : Loc → M Bool) : Prop where
  pt : PT X e t
  run : RunG G W RelB t m
structure DW (G : Gt) (X : Cx) (W : WX) (e : Expr) (t : TT) (m : Loc → M Bool) : Prop where
  pw : PW X e t
  run : RunG G W RelB t m
structure DA (G : Gt) (X : Cx) (W : WX) (es : List Expr) (t : TA) (m : Loc → M (List D)) : Prop where
  pa : PA X es t
  run : RunG G W (RelA G) t m

/-! ### names and constants -/
def mvar (i : Nat) : Loc → M D := fun ρ => match ρ[i]? with
  | some (some d) => mret d
  | _ => mbad
theorem run_var {i : Nat} : RunG G W (RelE G) (tVar i) (mvar i) := by
  intro p σ H ρ s Q e pk fin
  unfold mvar at fin
  cases h : ρ[i]? with
  | none => rw [h] at fin; exact False.elim fin
  | some o =>
    cases o with
    | none => rw [h] at fin; exact False.elim fin
    | some d =>
      rw [h] at fin
      obtain ⟨v, h1, h2⟩ := e.2 i d h
      exact ⟨v, h1, fin v H Keep.refl pk h2⟩
theorem run_c {v : V} {d : D} (h : ∀ p H, Rep G p H d v) : RunG G W (RelE G) (tC v) (fun _ => mret d) := by
  intro p σ H ρ s Q e pk fin
  exact fin v H Keep.refl pk (h p H)
theorem de_var (i : Nat) {x : Str} {pos : Pos} (hN : X.N[i]? = some x := by rfl) (hv : Vis X.env.scope x := by first | exact Or.inl rfl | exact Or.inr (Or.inl rfl) | exact Or.inr (Or.inr rfl)) (hd : (x == ("__debug__" : Str)) = false := by decide)
    (hcd : (x == ("__classdict__" : Str)) = false := by decide) : DE G X W (.Name x pos) (tVar i) (mvar i) := ⟨pe_var hN hv hd hcd, run_var⟩
theorem de_int {i : Int} {j : Nat} {pos : Pos} : DE G X W (.Constant (.int i) j pos) (tC (.int i)) (fun _ => mret (.int i)) := ⟨pe_int, run_c fun _ _ => rfl⟩
theorem de_bl {b : Bool} {j : Nat} {pos : Pos} : DE G X W (.Constant (.bool b) j pos) (tC (.bl b)) (fun _ => mret (.bl b)) := ⟨pe_bl, run_c fun _ _ => rfl⟩
theorem de_non {j : Nat} {pos : Pos} : DE G X W (.Constant .none j pos) (tC .non) (fun _ => mret .non) := ⟨pe_non, run_c fun _ _ => rfl⟩
theorem de_str {x : Str} {j : Nat} {pos : Pos} : DE G X W (.Constant (.str x) j pos) (tC (.str x)) (fun _ => mret (.str x)) := ⟨pe_str, run_c fun _ _ => rfl⟩
/-- a built-in class by name -/
theorem de_ty {x : Str} {n : String} {pos : Pos} (hg : Gl X x) (hm : X.mg x = none) (hv : bootBuiltins x = some (.type n)) (hn : x ≠ "__name__" := by decide) (hd : (x == ("__debug__" : Str)) = false := by decide) :
    DE G X W (.Name x pos) (tC (.ty n)) (fun _ => mret (.ty n)) := ⟨pe_bltn hg hm hv rfl hn hd, run_c fun _ _ => rfl⟩
/-- an own class by name -/
theorem de_cls {x : Str} {n : Nat} {pos : Pos} (hg : Gl X x) (hm : X.mg x = some (.ref (G.cls n))) (hd : (x == ("__debug__" : Str)) = false := by decide) :
    DE G X W (.Name x pos) (tC (.ref (G.cls n))) (fun _ => mret (.cls n)) := ⟨pe_glob hg hm rfl hd, run_c fun _ _ => rfl⟩
/-- a module's whole number by name -/
theorem de_gint {x : Str} {i : Int} {t : Tok} {pos : Pos} (hg : Gl X x) (hm : X.mg x = some (.int i t)) (hd : (x == ("__debug__" : Str)) = false := by decide) :
    DE G X W (.Name x pos) (tC (.int i)) (fun _ => mret (.int i)) := ⟨pe_glob hg hm ⟨t, rfl⟩ hd, run_c fun _ _ => rfl⟩

/-! ### operators -/
def Prim2 (G : Gt) (r : R2) (f : D → D → M D) : Prop :=
  ∀ (W : WX) (p : Fm) (σ : St) (H : Hp) (s : Pen) (x y : D) (vx vy : V) (Q : VK), PenOk G p H s → Rep G p H x vx → Rep G p H y vy → FinG G W (RelE G) p σ H Q (f x y s) → r vx vy H Q
def Prim1 (G : Gt) (r : V → Hp → VK → Prop) (f : D → M D) : Prop :=
  ∀ (W : WX) (p : Fm) (σ : St) (H : Hp) (s : Pen) (x : D) (vx : V) (Q : VK), PenOk G p H s → Rep G p H x vx → FinG G W (RelE G) p σ H Q (f x s) → r vx H Q
def PrimL (G : Gt) (r : List V → Hp → VK → Prop) (f : List D → M D) : Prop :=
  ∀ (W : WX) (p : Fm) (σ : St) (H : Hp) (s : Pen) (xs : List D) (vs : List V) (Q : VK), PenOk G p H s → RepL G p H xs vs → FinG G W (RelE G) p σ H Q (f xs s) → r vs H Q
variable {a b c : Expr} {ta tb tc te : TE} {fa fb fc fe : Loc → M D} {r : R2} {f : D → D → M D} {pos : Pos}
theorem run_op (hp : Prim2 G r f) (ha : RunG G W (RelE G) ta fa) (hb : RunG G W (RelE G) tb fb) : RunG G W (RelE G) (tOp r ta tb) (fun ρ => mbind (fa ρ) fun x => mbind (fb ρ) fun y => f x y) := by
  intro p σ H ρ s Q e pk fin
  exact ha p σ H ρ s _ e pk (fin.step fun x s1 vx H1 k1 pk1 rx fin1 => hb p σ H1 ρ s1 _ (e.keep pk.at k1) pk1 (fin1.step fun y s2 vy H2 k2 pk2 ry fin2 =>
    hp W p σ H2 s2 x y vx vy Q pk2 (rep_keep pk1.at k2 x vx rx) ry fin2))
theorem de_op {op : Operator} (ho : OpR X (binaryOp op) r) (hp : Prim2 G r f) (ha : DE G X W a ta fa) (hb : DE G X W b tb fb) : DE G X W (.BinOp a op b pos) (tOp r ta tb) (fun ρ => mbind (fa ρ) fun x => mbind (fb ρ) fun y => f x y) :=
  ⟨pe_op ho ha.pe hb.pe, run_op hp ha.run hb.run⟩
theorem de_cmp {op : CmpOp} (ho : OpR X (compareOp op) r) (hp : Prim2 G r f) (ha : DE G X W a ta fa) (hb : DE G X W b tb fb) (hm : behindInMarks op b = false := by first | exact nomark _ | rfl) : DE G X W (.Compare a [op] [b] pos) (tOp r ta tb) (fun ρ => mbind (fa ρ) fun x => mbind (fb ρ) fun y => f x y) :=
  ⟨pe_cmpR ho ha.pe hb.pe hm, run_op hp ha.run hb.run⟩
theorem run_un {r : V → Hp → VK → Prop} {f : D → M D} (hp : Prim1 G r f) (ha : RunG G W (RelE G) ta fa) : RunG G W (RelE G) (tUn r ta) (fun ρ => mbind (fa ρ) f) := by
  intro p σ H ρ s Q e pk fin
  exact ha p σ H ρ s _ e pk (fin.step fun x s1 vx H1 k1 pk1 rx fin1 => hp W p σ H1 s1 x vx Q pk1 rx fin1)
theorem de_un {op : UnaryOp} {r : V → Hp → VK → Prop} {f : D → M D} (ho : UnR X (unaryOp op) r) (hp : Prim1 G r f) (ha : DE G X W a ta fa) : DE G X W (.UnaryOp op a pos) (tUn r ta) (fun ρ => mbind (fa ρ) f) := ⟨pe_un ho ha.pe, run_un hp ha.run⟩
/-- of two readings for one operation -/
theorem Prim2.or {r r' : R2} {f f' : D → D → M D} {f2 : D → D → M D} (h : Prim2 G r f) (h' : Prim2 G r' f') (hf : ∀ x y, f2 x y = f x y ∨ f2 x y = f' x y) : Prim2 G (fun x y H Q => r x y H Q ∨ r' x y H Q) f2 := by
  intro W p σ H s x y vx vy Q pk rx ry fin
  rcases hf x y with e | e
  · rw [e] at fin; exact .inl (h W p σ H s x y vx vy Q pk rx ry fin)
  · rw [e] at fin; exact .inr (h' W p σ H s x y vx vy Q pk rx ry fin)
theorem PrimL.or {r r' : List V → Hp → VK → Prop} {f f' f2 : List D → M D} (h : PrimL G r f) (h' : PrimL G r' f') (hf : ∀ x, f2 x = f x ∨ f2 x = f' x) : PrimL G (fun x H Q => r x H Q ∨ r' x H Q) f2 := by
  intro W p σ H s x vx Q pk rx fin
  rcases hf x with e | e
  · rw [e] at fin; exact .inl (h W p σ H s x vx Q pk rx fin)
  · rw [e] at fin; exact .inr (h' W p σ H s x vx Q pk rx fin)

def int2 (g : Int → Int → D) : D → D → M D := fun x y => match x, y with
  | .int i, .int j => mret (g i j)
  | _, _ => mbad
def int2c (c : Int → Int → Bool) (g : Int → Int → D) : D → D → M D := fun x y => match x, y with
  | .int i, .int j => if c i j = true then mret (g i j) else mbad
  | _, _ => mbad
theorem prim_I0 {g : Int → Int → D} {gv : Int → Int → V} (hg : ∀ p H i j, Rep G p H (g i j) (gv i j)) : Prim2 G (rI0 gv) (int2 g) := by
  intro W p σ H s x y vx vy Q pk rx ry fin
  unfold int2 at fin
  split at fin
  · exact ⟨_, _, rx, ry, fin _ H Keep.refl pk (hg ..)⟩
  · exact fin.elim
theorem prim_I {C : Int → Int → Prop} {c : Int → Int → Bool} {g : Int → Int → D} {gv : Int → Int → V} (hc : ∀ i j, c i j = true → C i j) (hg : ∀ p H i j, Rep G p H (g i j) (gv i j)) : Prim2 G (rI C gv) (int2c c g) := by
  intro W p σ H s x y vx vy Q pk rx ry fin
  unfold int2c at fin
  split at fin
  · split at fin
    · rename_i h
      exact ⟨_, _, rx, ry, hc _ _ h, fin _ H Keep.refl pk (hg ..)⟩
    · exact fin.elim
  · exact fin.elim
def addI : D → D → M D := int2 fun i j => .int (i + j)
def subI : D → D → M D := int2 fun i j => .int (i - j)
def mulOk (i j : Int) : Bool := decide (j.natAbs < 2 ^ 64) || (decide (i.natAbs < 2 ^ 64) || decide (i.natAbs.log2 + j.natAbs.log2 < 1000000))
def CMulX (i j : Int) : Prop := CMul i j ∨ CMulW i j
theorem op_mulX {X : Cx} : OpR X (binaryOp .Mult) (rI CMulX fun i j => .int (i * j)) := opI fun _ _ _ _ _ _ _ hc q => PyProof.Rows.mul_int q (hc.elim CMul.ok CMulW.ok)
def mulI : D → D → M D := int2c mulOk fun i j => .int (i * j)
def divOk (_ j : Int) : Bool := decide (0 < j ∧ j.natAbs.log2 < 9000)
def fdivI : D → D → M D := int2c divOk fun i j => .int (i / j)
def modI : D → D → M D := int2c (fun _ j => decide (0 < j)) fun i j => .int (i % j)
def powI : D → D → M D := int2c (fun i j => decide (0 ≤ j ∧ j ≤ 1000000 ∧ i.natAbs < 2 ^ 64)) fun i j => .int (i ^ j.toNat)
theorem prim_add : Prim2 G (rI0 fun i j => .int (i + j)) addI := prim_I0 fun _ _ _ _ => rfl
theorem prim_sub : Prim2 G (rI0 fun i j => .int (i - j)) subI := prim_I0 fun _ _ _ _ => rfl
theorem mulOk_of {i j : Int} (h : mulOk i j = true) : CMulX i j := by
  unfold mulOk at h
  rw [Bool.or_eq_true, Bool.or_eq_true] at h
  rcases h with h | h | h
  · have := of_decide_eq_true h
    exact .inl (.inr ⟨by omega, by omega⟩)
  · have := of_decide_eq_true h
    exact .inl (.inl ⟨by omega, by omega⟩)
  · exact .inr (of_decide_eq_true (p := i.natAbs.log2 + j.natAbs.log2 < 1000000) h)
theorem prim_mul : Prim2 G (rI CMulX fun i j => .int (i * j)) mulI := prim_I (fun i j h => mulOk_of h) fun _ _ _ _ => rfl
theorem prim_fdiv : Prim2 G (rI CDivW fun i j => .int (i / j)) fdivI := prim_I (fun i j h => of_decide_eq_true (p := 0 < j ∧ j.natAbs.log2 < 9000) h) fun _ _ _ _ => rfl
theorem prim_mod : Prim2 G (rI (fun _ j => 0 < j) fun i j => .int (i % j)) modI := prim_I (fun _ _ h => of_decide_eq_true h) fun _ _ _ _ => rfl
theorem prim_pow : Prim2 G (rI CPow fun i j => .int (i ^ j.toNat)) powI := prim_I (fun i j h => of_decide_eq_true (p := 0 ≤ j ∧ j ≤ 1000000 ∧ i.natAbs < 2 ^ 64) h) fun _ _ _ _ => rfl
def negI : D → M D := fun x => match x with
  | .int i => mret (.int (-i))
  | _ => mbad
theorem prim_neg : Prim1 G (rU fun i => .int (-i)) negI := by
  intro W p σ H s x vx Q pk rx fin
  unfold negI at fin
  split at fin
  · exact ⟨_, rx, fin _ H Keep.refl pk rfl⟩
  · exact fin.elim
/-- two lists -/
def catL : D → D → M D := fun x y => match x, y with
  | .lst xs, .lst ys => if decide (xs.length + ys.length ≤ 100000) = true then mret (.lst (xs ++ ys)) else mbad
  | _, _ => mbad
theorem prim_catL : Prim2 G rCat catL := by
  intro W p σ H s x y vx vy Q pk rx ry fin
  unfold catL at fin
  split at fin
  · rename_i xs ys
    split at fin
    · rename_i h
      obtain ⟨a, vs, rfl, h0, h1, q1⟩ := rx
      obtain ⟨b, us, rfl, h0', h2, q2⟩ := ry
      have hl : vs.length + us.length ≤ sizeLine := by
        rw [← repL_len q1, ← repL_len q2]
        exact Nat.le_trans (of_decide_eq_true h) (by decide)
      refine ⟨a, b, vs, us, rfl, rfl, h1, h2, hl, fun l hn => ?_⟩
      have k : Keep p H (upd H l (.lst (vs ++ us))) := Keep.new hn
      exact fin _ _ k (pk.new hn) ⟨l, _, rfl, pk.free hn, upd_same, repL_app (repL_keep pk.at k _ _ q1) (repL_keep pk.at k _ _ q2)⟩
    · exact fin.elim
  · exact fin.elim
/-- + of whole numbers, or of lists -/
def addIL : D → D → M D := fun x y => match x with
  | .lst _ => catL x y
  | _ => addI x y
theorem prim_addIL : Prim2 G (fun x y H Q => (rI0 fun i j => V.int (i + j)) x y H Q ∨ rCat x y H Q) addIL := Prim2.or prim_add prim_catL fun x y => by
  unfold addIL
  cases x <;> first | exact .inr rfl | exact .inl rfl

/-! ### comparisons -/
def ltI : D → D → M D := int2 fun i j => .bl (decide (i < j))
def leI : D → D → M D := int2 fun i j => .bl (decide (i ≤ j))
def gtI : D → D → M D := int2 fun i j => .bl (decide (j < i))
def geI : D → D → M D := int2 fun i j => .bl (decide (j ≤ i))
theorem prim_lt : Prim2 G (rI0 fun i j => .bl (decide (i < j))) ltI := prim_I0 fun _ _ _ _ => rfl
theorem prim_le : Prim2 G (rI0 fun i j => .bl (decide (i ≤ j))) leI := prim_I0 fun _ _ _ _ => rfl
theorem prim_gt : Prim2 G (rI0 fun i j => .bl (decide (j < i))) gtI := prim_I0 fun _ _ _ _ => rfl
theorem prim_ge : Prim2 G (rI0 fun i j => .bl (decide (j ≤ i))) geI := prim_I0 fun _ _ _ _ => rfl

mutual
def toP : D → Option PyData
  | .non => some .none
  | .bl b => some (.bool b)
  | .int i => some (.int i)
  | .str x => some (.str x)
  | .lst xs => (toPL xs).map .list
  | .tup xs => (toPL xs).map .tuple
  | _ => none
def toPL : List D → Option (List PyData)
  | [] => some []
  | d :: ds => match toP d, toPL ds with
    | some x, some xs => some (x :: xs)
    | _, _ => none
end
def eqDat : D → D → M D := fun x y => match toP x, toP y with
  | some a, some b => if (SeqAt.shaped a && SeqAt.shaped b) = true then mret (.bl (PyData.eqv a b)) else mbad
  | _, _ => mbad
def neDat : D → D → M D := fun x y => match toP x, toP y with
  | some a, some b => if (SeqAt.shaped a && SeqAt.shaped b) = true then mret (.bl (!PyData.eqv a b)) else mbad
  | _, _ => mbad

mutual
theorem dp_of {p : Fm} {H : Hp} : ∀ (d : D) (v : V) (x : PyData), Rep G p H d v → toP d = some x → Dp K H v x
  | .non, v, x, q, e => by obtain rfl : v = .non := q; cases e; exact .non
  | .bl b, v, x, q, e => by obtain rfl : v = .bl b := q; cases e; exact .bl b
  | .int i, v, x, q, e => by obtain rfl : v = .int i := q; cases e; exact .int i
  | .str y, v, x, q, e => by obtain rfl : v = .str y := q; cases e; exact .str y
  | .lst ds, v, x, q, e => by
    obtain ⟨a, vs, rfl, h0, h1, q1⟩ := q
    unfold toP at e
    cases h : toPL ds with
    | none => rw [h] at e; cases e
    | some xs => rw [h] at e; cases e; exact .lst (SqL.of h1) (dpAll_of ds vs xs q1 h)
  | .tup ds, v, x, q, e => by
    obtain ⟨a, vs, rfl, h0, h1, q1⟩ := q
    unfold toP at e
    cases h : toPL ds with
    | none => rw [h] at e; cases e
    | some xs => rw [h] at e; cases e; exact .tup (SqT.of h1) (dpAll_of ds vs xs q1 h)
  | .ty _, _, _, _, e => by cases e
  | .cls _, _, _, _, e => by cases e
  | .ins _ _ _, _, _, _, e => by cases e
  | .err _ _ _, _, _, _, e => by cases e
  | .pen, _, _, _, e => by cases e
  | .bag, _, _, _, e => by cases e
  | .self, _, _, _, e => by cases e
theorem dpAll_of {p : Fm} {H : Hp} : ∀ (ds : List D) (vs : List V) (xs : List PyData), RepL G p H ds vs → toPL ds = some xs → DpAll K H vs xs
  | [], vs, xs, q, e => by
    obtain rfl : vs = [] := q
    cases e
    exact .nil
  | d :: ds, vs, xs, q, e => by
    obtain ⟨v, r, rfl, q1, q2⟩ := q
    unfold toPL at e
    cases h1 : toP d with
    | none => rw [h1] at e; cases e
    | some y =>
      cases h2 : toPL ds with
      | none => rw [h1, h2] at e; cases e
      | some ys => rw [h1, h2] at e; cases e; exact .cons (dp_of d v y q1 h1) (dpAll_of ds r ys q2 h2)
end
theorem prim_eqDat : Prim2 G (rEqD K) eqDat := by
  intro W p σ H s x y vx vy Q pk rx ry fin
  unfold eqDat at fin
  cases h1 : toP x with
  | none => rw [h1] at fin; exact False.elim fin
  | some a =>
    cases h2 : toP y with
    | none => rw [h1, h2] at fin; exact False.elim fin
    | some b =>
      rw [h1, h2] at fin
      dsimp only at fin
      by_cases h3 : (SeqAt.shaped a && SeqAt.shaped b) = true
      · rw [if_pos h3] at fin
        rw [Bool.and_eq_true] at h3
        exact ⟨a, b, dp_of x vx a rx h1, dp_of y vy b ry h2, h3.1, h3.2, fin _ H Keep.refl pk rfl⟩
      · rw [if_neg h3] at fin; exact False.elim fin
theorem prim_neDat : Prim2 G (rNeD K) neDat := by
  intro W p σ H s x y vx vy Q pk rx ry fin
  unfold neDat at fin
  cases h1 : toP x with
  | none => rw [h1] at fin; exact False.elim fin
  | some a =>
    cases h2 : toP y with
    | none => rw [h1, h2] at fin; exact False.elim fin
    | some b =>
      rw [h1, h2] at fin
      dsimp only at fin
      by_cases h3 : (SeqAt.shaped a && SeqAt.shaped b) = true
      · rw [if_pos h3] at fin
        rw [Bool.and_eq_true] at h3
        exact ⟨a, b, dp_of x vx a rx h1, dp_of y vy b ry h2, h3.1, h3.2, fin _ H Keep.refl pk rfl⟩
      · rw [if_neg h3] at fin; exact False.elim fin
/-- ==: whole numbers at once, all other data by their form -/
def eqA : D → D → M D := fun x y => match x, y with
  | .int i, .int j => mret (.bl (decide (i = j)))
  | .bl i, .bl j => mret (.bl (decide (i = j)))
  | _, _ => eqDat x y
def neA : D → D → M D := fun x y => match x, y with
  | .int i, .int j => mret (.bl (!decide (i = j)))
  | .bl i, .bl j => mret (.bl (!decide (i = j)))
  | _, _ => neDat x y
theorem dec_vint {i j : Int} : decide (V.int i = V.int j) = decide (i = j) := by
  by_cases h : i = j
  · subst h; simp
  · rw [decide_eq_false h, decide_eq_false fun z => h (V.int.inj z)]
theorem dec_vbl {i j : Bool} : decide (V.bl i = V.bl j) = decide (i = j) := by
  by_cases h : i = j
  · subst h; simp
  · rw [decide_eq_false h, decide_eq_false fun z => h (V.bl.inj z)]
theorem prim_eq : Prim2 G (fun x y H Q => rEq x y H Q ∨ rEqD K x y H Q) eqA := by
  intro W p σ H s x y vx vy Q pk rx ry fin
  unfold eqA at fin
  split at fin
  · rename_i i j
    obtain rfl : vx = .int i := rx
    obtain rfl : vy = .int j := ry
    exact .inl ⟨rfl, by rw [dec_vint]; exact fin _ H Keep.refl pk rfl⟩
  · rename_i i j
    obtain rfl : vx = .bl i := rx
    obtain rfl : vy = .bl j := ry
    exact .inl ⟨rfl, by rw [dec_vbl]; exact fin _ H Keep.refl pk rfl⟩
  · exact .inr (prim_eqDat W p σ H s x y vx vy Q pk rx ry fin)
theorem prim_ne : Prim2 G (fun x y H Q => rNe x y H Q ∨ rNeD K x y H Q) neA := by
  intro W p σ H s x y vx vy Q pk rx ry fin
  unfold neA at fin
  split at fin
  · rename_i i j
    obtain rfl : vx = .int i := rx
    obtain rfl : vy = .int j := ry
    exact .inl ⟨rfl, by rw [dec_vint]; exact fin _ H Keep.refl pk rfl⟩
  · rename_i i j
    obtain rfl : vx = .bl i := rx
    obtain rfl : vy = .bl j := ry
    exact .inl ⟨rfl, by rw [dec_vbl]; exact fin _ H Keep.refl pk rfl⟩
  · exact .inr (prim_neDat W p σ H s x y vx vy Q pk rx ry fin)
theorem op_eqA (hK : X.K = K) (hu : X.A.units + 64 < cLine) : OpR X (compareOp .Eq) (fun x y H Q => rEq x y H Q ∨ rEqD K x y H Q) := by
  subst hK; exact op_eq.or (op_eqD hu)
theorem op_neA (hK : X.K = K) (hu : X.A.units + 64 < cLine) : OpR X (compareOp .NotEq) (fun x y H Q => rNe x y H Q ∨ rNeD K x y H Q) := by
  subst hK; exact op_ne.or (op_neD hu)
/-- x is None; x is True (bools alone) -/
def isNo : D → D → M D := fun x y => match y with
  | .non => (match x with
    | .non => mret (.bl true)
    | _ => mret (.bl false))
  | _ => mbad
def notNo : D → D → M D := fun x y => match y with
  | .non => (match x with
    | .non => mret (.bl false)
    | _ => mret (.bl true))
  | _ => mbad
def isBo : D → D → M D := fun x y => match x, y with
  | .bl i, .bl j => mret (.bl (decide (i = j)))
  | _, _ => mbad
theorem rep_non {p : Fm} {H : Hp} {x : D} {v : V} (h : Rep G p H x v) (hx : x ≠ .non) : v ≠ .non := by
  intro e
  subst e
  cases x <;> first
    | exact hx rfl
    | exact nomatch (show V.non = _ from h)
    | (obtain ⟨_, _, z, _⟩ := h; exact nomatch z)
    | (obtain ⟨_, _, _, z, _⟩ := h; exact nomatch z)
    | (obtain ⟨_, _, _, _, z, _⟩ := h; exact nomatch z)
    | (obtain ⟨_, _, z⟩ := h; exact nomatch z)
theorem prim_isNo : Prim2 G (fun x y H Q => y = .non ∧ Q (.bl (decide (x = .non))) H) isNo := by
  intro W p σ H s x y vx vy Q pk rx ry fin
  unfold isNo at fin
  split at fin
  · refine ⟨ry, ?_⟩
    split at fin
    · obtain rfl : vx = .non := rx
      exact fin _ H Keep.refl pk rfl
    · rename_i h
      rw [decide_eq_false (rep_non rx h)]
      exact fin _ H Keep.refl pk rfl
  · exact False.elim fin
theorem prim_notNo : Prim2 G (fun x y H Q => y = .non ∧ Q (.bl (!decide (x = .non))) H) notNo := by
  intro W p σ H s x y vx vy Q pk rx ry fin
  unfold notNo at fin
  split at fin
  · refine ⟨ry, ?_⟩
    split at fin
    · obtain rfl : vx = .non := rx
      exact fin _ H Keep.refl pk rfl
    · rename_i h
      rw [decide_eq_false (rep_non rx h)]
      exact fin _ H Keep.refl pk rfl
  · exact False.elim fin
theorem prim_isBo : Prim2 G rIsB isBo := by
  intro W p σ H s x y vx vy Q pk rx ry fin
  unfold isBo at fin
  split at fin
  · exact ⟨_, _, rx, ry, fin _ H Keep.refl pk rfl⟩
  · exact False.elim fin

/-! ### tests -/
def asB (d : D) : M Bool := match d with
  | .bl b => mret b
  | _ => mbad
theorem run_tB (h : RunG G W (RelE G) te fe) : RunG G W RelB (tB te) (fun ρ => mbind (fe ρ) asB) := by
  intro p σ H ρ s Q e pk fin
  refine h p σ H ρ s _ e pk (fin.step fun x s1 vx H1 k1 pk1 rx fin1 => ?_)
  unfold asB at fin1
  split at fin1
  · exact ⟨_, rx, fin1 _ H1 Keep.refl pk1 rfl⟩
  · exact False.elim fin1
theorem dt_val {e : Expr} (h : DE G X W e te fe) (he : ∀ whole, isTrue e X.env whole = (do let v ← whole; standAt e.pos; holding [v] (truthy v)) := by intro _; rfl) : DT G X W e (tB te) (fun ρ => mbind (fe ρ) asB) :=
  ⟨pt_val h.pe he, run_tB h.run⟩
theorem dt_cmp {op : CmpOp} (ho : OpR X (compareOp op) r) (hp : Prim2 G r f) (ha : DE G X W a ta fa) (hb : DE G X W b tb fb) (hm : behindInMarks op b = false := by first | exact nomark _ | rfl) :
    DT G X W (.Compare a [op] [b] pos) (tTest (tOp r ta tb)) (fun ρ => mbind (mbind (fa ρ) fun x => mbind (fb ρ) fun y => f x y) asB) :=
  ⟨pt_cmpR ho ha.pe hb.pe hm, run_tB (te := tOp r ta tb) (run_op hp ha.run hb.run)⟩
variable {A1 A2 : TT} {f1 f2 : Loc → M Bool} {rest : List Expr}
theorem dw_and1 (ha : DT G X W a A1 f1) : DW G X W (.BoolOp .And [a] pos) A1 f1 := ⟨pw_and1 ha.pt, ha.run⟩
theorem dw_or1 (ha : DT G X W a A1 f1) : DW G X W (.BoolOp .Or [a] pos) A1 f1 := ⟨pw_or1 ha.pt, ha.run⟩
theorem run_and (h1 : RunG G W RelB A1 f1) (h2 : RunG G W RelB A2 f2) : RunG G W RelB (tAnd A1 A2) (fun ρ => mbind (f1 ρ) fun c => if c = true then f2 ρ else mret false) := by
  intro p σ H ρ s Q e pk fin
  refine h1 p σ H ρ s _ e pk (fin.step fun x s1 b H1 k1 pk1 rx fin1 => ?_)
  obtain rfl : b = x := rx
  cases b with
  | true =>
    show (if true = true then A2 σ H1 Q else Q false H1)
    rw [if_pos rfl] at fin1 ⊢
    exact h2 p σ H1 ρ s1 Q (e.keep pk.at k1) pk1 fin1
  | false =>
    show (if false = true then A2 σ H1 Q else Q false H1)
    rw [if_neg Bool.false_ne_true] at fin1 ⊢
    exact fin1 _ H1 Keep.refl pk1 rfl
theorem run_or (h1 : RunG G W RelB A1 f1) (h2 : RunG G W RelB A2 f2) : RunG G W RelB (tOr A1 A2) (fun ρ => mbind (f1 ρ) fun c => if c = true then mret true else f2 ρ) := by
  intro p σ H ρ s Q e pk fin
  refine h1 p σ H ρ s _ e pk (fin.step fun x s1 b H1 k1 pk1 rx fin1 => ?_)
  obtain rfl : b = x := rx
  cases b with
  | true =>
    show (if true = true then Q true H1 else A2 σ H1 Q)
    rw [if_pos rfl] at fin1 ⊢
    exact fin1 _ H1 Keep.refl pk1 rfl
  | false =>
    show (if false = true then Q true H1 else A2 σ H1 Q)
    rw [if_neg Bool.false_ne_true] at fin1 ⊢
    exact h2 p σ H1 ρ s1 Q (e.keep pk.at k1) pk1 fin1
theorem dw_and (ha : DT G X W a A1 f1) (hb : DW G X W (.BoolOp .And (b :: rest) pos) A2 f2) : DW G X W (.BoolOp .And (a :: b :: rest) pos) (tAnd A1 A2) (fun ρ => mbind (f1 ρ) fun c => if c = true then f2 ρ else mret false) := ⟨pw_and ha.pt hb.pw, run_and ha.run hb.run⟩
theorem dw_or (ha : DT G X W a A1 f1) (hb : DW G X W (.BoolOp .Or (b :: rest) pos) A2 f2) : DW G X W (.BoolOp .Or (a :: b :: rest) pos) (tOr A1 A2) (fun ρ => mbind (f1 ρ) fun c => if c = true then mret true else f2 ρ) := ⟨pw_or ha.pt hb.pw, run_or ha.run hb.run⟩
theorem dt_w {e : Expr} (h : DW G X W e A1 f1) : DT G X W e A1 f1 := ⟨h.pw.pt, h.run⟩
theorem dt_not (ha : DT G X W a A1 f1) : DT G X W (.UnaryOp .Not a pos) (tNot A1) (fun ρ => mbind (f1 ρ) fun c => mret (!c)) := by
  refine ⟨pt_not ha.pt, fun p σ H ρ s Q e pk fin => ?_⟩
  refine ha.run p σ H ρ s _ e pk (fin.step fun x s1 b H1 k1 pk1 rx fin1 => ?_)
  obtain rfl : b = x := rx
  exact fin1 _ H1 Keep.refl pk1 rfl
/-- and, or, not as values (of bools) -/
theorem de_one {op} (h : DE G X W a ta fa) : DE G X W (.BoolOp op [a] pos) ta fa := ⟨pe_one h.pe, h.run⟩
theorem de_and (ha : DE G X W a ta fa) (hb : DE G X W (.BoolOp .And (b :: rest) pos) tb fb) : DE G X W (.BoolOp .And (a :: b :: rest) pos) (tAndV ta tb) (fun ρ => mbind (mbind (fa ρ) asB) fun c => if c = true then fb ρ else mret (.bl false)) := by
  refine ⟨pe_and ha.pe hb.pe, fun p σ H ρ s Q e pk fin => ?_⟩
  refine (run_tB ha.run) p σ H ρ s (fun c H1 => if c = true then tb σ H1 Q else Q (.bl false) H1) e pk (fin.step fun x s1 b H1 k1 pk1 rx fin1 => ?_)
  obtain rfl : b = x := rx
  cases b with
  | true =>
    rw [if_pos rfl] at fin1 ⊢
    exact hb.run p σ H1 ρ s1 Q (e.keep pk.at k1) pk1 fin1
  | false =>
    rw [if_neg Bool.false_ne_true] at fin1 ⊢
    exact fin1 _ H1 Keep.refl pk1 rfl
theorem de_or (ha : DE G X W a ta fa) (hb : DE G X W (.BoolOp .Or (b :: rest) pos) tb fb) : DE G X W (.BoolOp .Or (a :: b :: rest) pos) (tOrV ta tb) (fun ρ => mbind (mbind (fa ρ) asB) fun c => if c = true then mret (.bl true) else fb ρ) := by
  refine ⟨pe_or ha.pe hb.pe, fun p σ H ρ s Q e pk fin => ?_⟩
  refine (run_tB ha.run) p σ H ρ s (fun c H1 => if c = true then Q (.bl true) H1 else tb σ H1 Q) e pk (fin.step fun x s1 b H1 k1 pk1 rx fin1 => ?_)
  obtain rfl : b = x := rx
  cases b with
  | true =>
    rw [if_pos rfl] at fin1 ⊢
    exact fin1 _ H1 Keep.refl pk1 rfl
  | false =>
    rw [if_neg Bool.false_ne_true] at fin1 ⊢
    exact hb.run p σ H1 ρ s1 Q (e.keep pk.at k1) pk1 fin1
theorem de_not (ha : DE G X W a ta fa) : DE G X W (.UnaryOp .Not a pos) (tNotV ta) (fun ρ => mbind (mbind (fa ρ) asB) fun c => mret (.bl (!c))) := by
  refine ⟨pe_not ha.pe, fun p σ H ρ s Q e pk fin => ?_⟩
  refine (run_tB ha.run) p σ H ρ s (fun c H1 => Q (.bl (!c)) H1) e pk (fin.step fun x s1 b H1 k1 pk1 rx fin1 => ?_)
  obtain rfl : b = x := rx
  exact fin1 _ H1 Keep.refl pk1 rfl
theorem de_ifExp (hc : DT G X W c A1 f1) (ha : DE G X W a ta fa) (hb : DE G X W b tb fb) : DE G X W (.IfExp c a b pos) (tIf A1 ta tb) (fun ρ => mbind (f1 ρ) fun c => if c = true then fa ρ else fb ρ) := by
  refine ⟨pe_ifExp hc.pt ha.pe hb.pe, fun p σ H ρ s Q e pk fin => ?_⟩
  refine hc.run p σ H ρ s _ e pk (fin.step fun x s1 b H1 k1 pk1 rx fin1 => ?_)
  obtain rfl : b = x := rx
  cases b with
  | true =>
    rw [if_pos rfl] at fin1 ⊢
    exact ha.run p σ H1 ρ s1 Q (e.keep pk.at k1) pk1 fin1
  | false =>
    rw [if_neg Bool.false_ne_true] at fin1 ⊢
    exact hb.run p σ H1 ρ s1 Q (e.keep pk.at k1) pk1 fin1
/-- a op b op' c -/
theorem run_chain {r' : R2} {f' : D → D → M D} (hp : Prim2 G r f) (hp' : Prim2 G r' f') (ha : RunG G W (RelE G) ta fa) (hb : RunG G W (RelE G) tb fb) (hc : RunG G W (RelE G) tc fc) :
    RunG G W (RelE G) (tChain r r' ta tb tc) (fun ρ => mbind (fa ρ) fun x => mbind (fb ρ) fun y => mbind (mbind (f x y) asB) fun k => if k = true then mbind (fc ρ) fun z => f' y z else mret (.bl false)) := by
  intro p σ H ρ s Q e pk fin
  refine ha p σ H ρ s _ e pk (fin.step fun x s1 vx H1 k1 pk1 rx fin1 => hb p σ H1 ρ s1 _ (e.keep pk.at k1) pk1 (fin1.step fun y s2 vy H2 k2 pk2 ry fin2 => ?_))
  have e2 := (e.keep pk.at k1).keep pk1.at k2
  refine hp W p σ H2 s2 x y vx vy _ pk2 (rep_keep pk1.at k2 x vx rx) ry ((fin2.step (RA := RelB) (R := fun k H3 => if k = true then tc σ H3 fun w' H4 => r' vy w' H4 Q else Q (.bl false) H3) fun k s3 b H3 k3 pk3 rk fin3 => ?_).step fun z s3 vz H3 k3 pk3 rz fin3 => ?_)
  · obtain rfl : b = k := rk
    cases b with
    | true =>
      rw [if_pos rfl] at fin3 ⊢
      exact hc p σ H3 ρ s3 _ (e2.keep pk2.at k3) pk3 (fin3.step fun z s4 vz H4 k4 pk4 rz fin4 => hp' W p σ H4 s4 y z vy vz Q pk4 (rep_keep pk2.at (k3.trans k4) y vy ry) rz fin4)
    | false =>
      rw [if_neg Bool.false_ne_true] at fin3 ⊢
      exact fin3 _ H3 Keep.refl pk3 rfl
  · unfold asB at fin3
    split at fin3
    · exact ⟨_, rz, fin3 _ H3 Keep.refl pk3 rfl⟩
    · exact False.elim fin3
theorem de_chain {op op' : CmpOp} {r' : R2} {f' : D → D → M D} (ho : OpR X (compareOp op) r) (ho' : OpR X (compareOp op') r') (hp : Prim2 G r f) (hp' : Prim2 G r' f') (ha : DE G X W a ta fa) (hb : DE G X W b tb fb) (hc : DE G X W c tc fc)
    (hm : lastMarks [op, op'] [b, c] = false := by with_unfolding_all rfl) : DE G X W (.Compare a [op, op'] [b, c] pos) (tChain r r' ta tb tc) (fun ρ => mbind (fa ρ) fun x => mbind (fb ρ) fun y => mbind (mbind (f x y) asB) fun k => if k = true then mbind (fc ρ) fun z => f' y z else mret (.bl false)) :=
  ⟨pe_chain ho ho' ha.pe hb.pe hc.pe hm, run_chain hp hp' ha.run hb.run hc.run⟩

/-! ### arguments, displays, items -/
variable {e : Expr} {es : List Expr} {tA : TA} {fA : Loc → M (List D)}
theorem da_nil : DA G X W [] tNil (fun _ => mret []) := ⟨pa_nil, fun _ _ H _ _ _ _ pk fin => fin [] H Keep.refl pk rfl⟩
theorem da_cons (ha : DE G X W e te fe) (hr : DA G X W es tA fA) (hs : starEach (e :: es) X.env = (false, eval e X.env) :: starEach es X.env := by rfl) : DA G X W (e :: es) (tCons te tA) (fun ρ => mbind (fe ρ) fun x => mbind (fA ρ) fun xs => mret (x :: xs)) := by
  refine ⟨pa_cons ha.pe hr.pa hs, fun p σ H ρ s Q e pk fin => ?_⟩
  exact ha.run p σ H ρ s _ e pk (fin.step fun x s1 vx H1 k1 pk1 rx fin1 => hr.run p σ H1 ρ s1 _ (e.keep pk.at k1) pk1 (fin1.step fun xs s2 vs H2 k2 pk2 rs fin2 =>
    fin2 _ H2 Keep.refl pk2 ⟨vx, vs, rfl, rep_keep pk1.at k2 x vx rx, rs⟩))
def tupD (xs : List D) : M D := if decide (xs.length ≤ 100000) = true then mret (.tup xs) else mbad
def lstD (xs : List D) : M D := if decide (xs.length ≤ 100000) = true then mret (.lst xs) else mbad
theorem de_tup {x1} (h : DA G X W es tA fA) : DE G X W (.Tuple es x1 pos) (tTup tA) (fun ρ => mbind (fA ρ) tupD) := by
  refine ⟨pe_tup h.pa, fun p σ H ρ s Q e pk fin => ?_⟩
  refine h.run p σ H ρ s _ e pk (fin.step fun xs s1 vs H1 k1 pk1 rs fin1 => ?_)
  unfold tupD at fin1
  split at fin1
  · rename_i hl
    refine ⟨by rw [← repL_len rs]; exact Nat.le_trans (of_decide_eq_true hl) (by decide), fun q hq => ?_⟩
    have k : Keep p H1 (upd H1 q (.tup vs)) := Keep.new hq
    exact fin1 _ _ k (pk1.new hq) ⟨q, vs, rfl, pk1.free hq, upd_same, repL_keep pk1.at k _ _ rs⟩
  · exact False.elim fin1
theorem de_lst (h : DA G X W es tA fA) : DE G X W (.List es pos) (tLst tA) (fun ρ => mbind (fA ρ) lstD) := by
  refine ⟨pe_lst h.pa, fun p σ H ρ s Q e pk fin => ?_⟩
  refine h.run p σ H ρ s _ e pk (fin.step fun xs s1 vs H1 k1 pk1 rs fin1 => ?_)
  unfold lstD at fin1
  split at fin1
  · rename_i hl
    refine ⟨by rw [← repL_len rs]; exact Nat.le_trans (of_decide_eq_true hl) (by decide), fun q hq => ?_⟩
    have k : Keep p H1 (upd H1 q (.lst vs)) := Keep.new hq
    exact fin1 _ _ k (pk1.new hq) ⟨q, vs, rfl, pk1.free hq, upd_same, repL_keep pk1.at k _ _ rs⟩
  · exact False.elim fin1
theorem atI_rep {p : Fm} {H : Hp} {ds : List D} {vs : List V} {i : Int} {d : D} (q : RepL G p H ds vs) (h : atI ds i = some d) : ∃ v, atI vs i = some v ∧ Rep G p H d v := by
  unfold atI at h ⊢
  rw [← repL_len q]
  cases e : ixN ds.length i with
  | none => rw [e] at h; cases h
  | some j =>
    rw [e] at h
    exact repL_get (i := j) q h
def itemD : D → D → M D := fun x y => match x, y with
  | .lst xs, .int i => (match atI xs i with
    | some d => mret d
    | none => mbad)
  | .tup xs, .int i => (match atI xs i with
    | some d => mret d
    | none => mbad)
  | _, _ => mbad
theorem prim_item : Prim2 G (fun x y H Q => rIxL K x y H Q ∨ rIxT K x y H Q) itemD := by
  intro W p σ H s x y vx vy Q pk rx ry fin
  unfold itemD at fin
  split at fin
  · rename_i xs i
    obtain ⟨a, vs, rfl, h0, h1, q1⟩ := rx
    obtain rfl : vy = .int i := ry
    cases h : atI xs i with
    | none => rw [h] at fin; exact False.elim fin
    | some d =>
      rw [h] at fin
      obtain ⟨v, h2, h3⟩ := atI_rep q1 h
      exact .inl ⟨a, vs, i, v, rfl, rfl, SqL.of h1, h2, fin v H Keep.refl pk h3⟩
  · rename_i xs i
    obtain ⟨a, vs, rfl, h0, h1, q1⟩ := rx
    obtain rfl : vy = .int i := ry
    cases h : atI xs i with
    | none => rw [h] at fin; exact False.elim fin
    | some d =>
      rw [h] at fin
      obtain ⟨v, h2, h3⟩ := atI_rep q1 h
      exact .inr ⟨a, vs, i, v, rfl, rfl, SqT.of h1, h2, fin v H Keep.refl pk h3⟩
  · exact False.elim fin
theorem ix_any (hK : X.K = K) : IxR X (fun x y H Q => rIxL K x y H Q ∨ rIxT K x y H Q) := by subst hK; exact ix_list.or ix_tup
theorem de_ix (hK : X.K = K) (ha : DE G X W a ta fa) (hb : DE G X W b tb fb) (hs : PlainIx b := by exact fun _ _ => rfl) : DE G X W (.Subscript a b pos) (tOp (fun x y H Q => rIxL K x y H Q ∨ rIxT K x y H Q) ta tb) (fun ρ => mbind (fa ρ) fun x => mbind (fb ρ) fun y => itemD x y) :=
  ⟨pe_ix (ix_any hK) ha.pe hb.pe hs, run_op prim_item ha.run hb.run⟩

/-! ### calls -/
/-- a def's promise by a function on trees -/
def spM (G : Gt) (n : Nat) (m : List D → M D) : Sp := fun vs H Q E => vs.length = n ∧ ∃ (p : Fm) (ds : List D) (s : Pen), RepL G p H ds vs ∧ PenOk G p H s ∧ FinG G (fun c d _ H' => E c d H') (RelE G) p [] H Q (m ds s)
theorem FinG.wx {α β : Type} {W W' : WX} {R : Fm → Hp → α → β → Prop} {p : Fm} {σ σ' : St} {H : Hp} {Q : β → Hp → Prop} {o : Out α} (h : FinG G W R p σ H Q o) (hw : ∀ c d H', W c d σ H' → W' c d σ' H') : FinG G W' R p σ' H Q o := by
  cases o with
  | ok a s => exact h
  | exc c ns xs s => exact fun dd H' k pk x => hw _ _ _ (h dd H' k pk x)
  | bad => exact h
theorem run_call {n : Nat} {m : List D → M D} (ha : RunG G W (RelA G) tA fA) (hl : ∀ ρ s ds s', fA ρ s = .ok ds s' → ds.length = n) : RunG G W (RelE G) (tCallS (spM G n m) (WE W) tA) (fun ρ => mbind (fA ρ) m) := by
  intro p σ H ρ s Q e pk fin
  show tA σ H fun vs H1 => spM G n m vs H1 Q (WE W σ)
  have fin' : FinG G W (RelE G) p σ H Q (obind (fA ρ s) m) := fin
  refine ha p σ H ρ s _ e pk ?_
  cases h : fA ρ s with
  | ok ds s1 =>
    rw [h] at fin'
    intro vs H1 k1 pk1 rs
    exact ⟨by rw [← repL_len rs]; exact hl ρ s ds s1 h, p, ds, s1, rs, pk1, (FinG.keep k1 fin').wx fun _ _ _ z => z⟩
  | exc c ns xs s1 => rw [h] at fin'; exact fin'
  | bad => rw [h] at fin'; exact fin'
/-- how many arguments are written -/
def LenA (fA : Loc → M (List D)) (n : Nat) : Prop := ∀ ρ s ds s', fA ρ s = .ok ds s' → ds.length = n
theorem len_nil : LenA (fun _ => mret []) 0 := fun _ _ _ _ h => by cases h; rfl
theorem len_cons {n : Nat} (h : LenA fA n) : LenA (fun ρ => mbind (fe ρ) fun x => mbind (fA ρ) fun xs => mret (x :: xs)) (n + 1) := by
  intro ρ s ds s' e
  have e : obind (fe ρ s) (fun x => mbind (fA ρ) fun xs => mret (x :: xs)) = .ok ds s' := e
  cases h1 : fe ρ s with
  | ok x s1 =>
    rw [h1] at e
    have e : obind (fA ρ s1) (fun xs => mret (x :: xs)) = .ok ds s' := e
    cases h2 : fA ρ s1 with
    | ok xs s2 =>
      rw [h2] at e
      cases e
      rw [List.length_cons, h ρ s1 xs _ h2]
    | exc c ns xs s2 => rw [h2] at e; cases e
    | bad => rw [h2] at e; cases e
  | exc c ns xs s2 => rw [h1] at e; cases e
  | bad => rw [h1] at e; cases e
theorem de_call {k n : Nat} {f : Addr} {fd : FuncData} {ps : List Str} {m : List D → M D} {x : Str} {p0 : Pos} (F : FnOk X.prog X.w X.K X.mg X.base (L2.CX X.prog X.w) k f fd ps (spM G n m)) (hr : Room k X.A) (tk : Takes X W) (hg : Gl X x) (hm : X.mg x = some (.ref f)) (hk : PySem.W.keepIn X.K (.ref f) = true) (hb : Binds X.K fd ps [])
    (ha : DA G X W (e :: es) tA fA) (hl : LenA fA n) (hdb : (x == ("__debug__" : Str)) = false := by decide) (he : starEach (e :: es) X.env = (false, eval e X.env) :: starEach es X.env := by rfl) (hpl : (backTo pos (starEach es X.env)).any (·.1) = false := by rfl) :
    DE G X W (.Call (.Name x p0) (e :: es) [] pos) (tCallS (spM G n m) (WE W) tA) (fun ρ => mbind (fA ρ) m) :=
  ⟨pe_callS F hr hg hm hk hb (fun σ => passAt tk σ) ha.pa hdb he hpl, run_call ha.run hl⟩
/-- a built-in function, a built-in class, a function of a module -/
theorem run_prim {rl : List V → Hp → VK → Prop} {g : List D → M D} (hp : PrimL G rl g) (ha : RunG G W (RelA G) tA fA) : RunG G W (RelE G) (tCB rl tA) (fun ρ => mbind (fA ρ) g) := by
  intro p σ H ρ s Q e pk fin
  exact ha p σ H ρ s _ e pk (fin.step fun xs s1 vs H1 k1 pk1 rs fin1 => hp W p σ H1 s1 xs vs Q pk1 rs fin1)
theorem de_callB {x : Str} {p0 : Pos} {id : String} {rl : List V → Hp → VK → Prop} {g : List D → M D} (hc : CallR X (.builtin id) rl) (hp : PrimL G rl g) (hg : Gl X x) (hm : X.mg x = none) (hv : bootBuiltins x = some (.builtin id)) (ha : DA G X W (e :: es) tA fA) (hn : x ≠ "__name__" := by decide) (hdb : (x == ("__debug__" : Str)) = false := by decide)
    (he : starEach (e :: es) X.env = (false, eval e X.env) :: starEach es X.env := by rfl) (hpl : (backTo pos (starEach es X.env)).any (·.1) = false := by rfl) : DE G X W (.Call (.Name x p0) (e :: es) [] pos) (tCB rl tA) (fun ρ => mbind (fA ρ) g) :=
  ⟨pe_callB hc hg hm hv ha.pa hn hdb he hpl, run_prim hp ha.run⟩
theorem de_callTy {x : Str} {p0 : Pos} {T : String} {rl : List V → Hp → VK → Prop} {g : List D → M D} (hc : CallR X (.type T) rl) (hp : PrimL G rl g) (hg : Gl X x) (hm : X.mg x = none) (hv : bootBuiltins x = some (.type T)) (ha : DA G X W (e :: es) tA fA) (hn : x ≠ "__name__" := by decide) (hdb : (x == ("__debug__" : Str)) = false := by decide)
    (he : starEach (e :: es) X.env = (false, eval e X.env) :: starEach es X.env := by rfl) (hpl : (backTo pos (starEach es X.env)).any (·.1) = false := by rfl) : DE G X W (.Call (.Name x p0) (e :: es) [] pos) (tCB rl tA) (fun ρ => mbind (fA ρ) g) :=
  ⟨pe_callTy hc hg hm hv ha.pa hn hdb he hpl, run_prim hp ha.run⟩
theorem de_callBfun {x : Str} {p0 : Pos} {id : String} {rl : List V → Hp → VK → Prop} {g : List D → M D} (hc : CallR X (.builtin id) rl) (hp : PrimL G rl g) (hg : Gl X x) (hm : X.mg x = some (.builtin id)) (ha : DA G X W (e :: es) tA fA) (hdb : (x == ("__debug__" : Str)) = false := by decide)
    (he : starEach (e :: es) X.env = (false, eval e X.env) :: starEach es X.env := by rfl) (hpl : (backTo pos (starEach es X.env)).any (·.1) = false := by rfl) : DE G X W (.Call (.Name x p0) (e :: es) [] pos) (tCB rl tA) (fun ρ => mbind (fA ρ) g) :=
  ⟨pe_callBfun hc hg hm ha.pa hdb he hpl, run_prim hp ha.run⟩
end
end Tw

set_option Elab.async false
set_option linter.all false
set_option maxRecDepth 100000
set_option maxHeartbeats 4000000
namespace Tw
open PySem L2
inductive OutS where
  | nx (ρ : Loc) (s : Pen)
  | ret (d : D) (s : Pen)
  | bk (ρ : Loc) (s : Pen)
  | ct (ρ : Loc) (s : Pen)
  | exc (c : Nat) (ns : List Str) (xs : List D) (ρ : Loc) (s : Pen)
  | bad
abbrev MS := Loc → Pen → OutS
section
variable {K : PySem.W.Frag} {G : Gt} {W : WX} {X : Cx}
def FinS (G : Gt) (W : WX) (p : Fm) (H : Hp) (Z : Ends) : OutS → Prop
  | .nx ρ s => ∀ σ' H', Keep p H H' → PenOk G p H' s → EnvOk G p H' σ' ρ → Z.nx σ' H'
  | .ret d s => ∀ v H', Keep p H H' → PenOk G p H' s → Rep G p H' d v → Z.rt v H'
  | .bk ρ s => ∀ σ' H', Keep p H H' → PenOk G p H' s → EnvOk G p H' σ' ρ → Z.bk σ' H'
  | .ct ρ s => ∀ σ' H', Keep p H H' → PenOk G p H' s → EnvOk G p H' σ' ρ → Z.ct σ' H'
  | .exc c ns xs ρ s => ∀ dd σ' H', Keep p H H' → PenOk G p H' s → EnvOk G p H' σ' ρ → ExcOk G p H' ns xs dd → W (.ref (G.cls c)) dd σ' H'
  | .bad => False
theorem FinS.keep {p : Fm} {H H' : Hp} {Z : Ends} {o : OutS} (k : Keep p H H') (h : FinS G W p H Z o) : FinS G W p H' Z o := by
  cases o with
  | nx ρ s => exact fun σ' H2 k2 => h σ' H2 (k.trans k2)
  | ret d s => exact fun v H2 k2 => h v H2 (k.trans k2)
  | bk ρ s => exact fun σ' H2 k2 => h σ' H2 (k.trans k2)
  | ct ρ s => exact fun σ' H2 k2 => h σ' H2 (k.trans k2)
  | exc c ns xs ρ s => exact fun dd σ' H2 k2 => h dd σ' H2 (k.trans k2)
  | bad => exact h
def RunS (G : Gt) (W : WX) (t : TS) (m : MS) : Prop := ∀ (p : Fm) (σ : St) (H : Hp) (ρ : Loc) (s : Pen) (Z : Ends), EnvOk G p H σ ρ → PenOk G p H s → FinS G W p H Z (m ρ s) → t Z σ H
structure DS (G : Gt) (X : Cx) (W : WX) (st : Stmt) (t : TS) (m : MS) : Prop where
  ps : PS X st t
  run : RunS G W t m
structure DSs (G : Gt) (X : Cx) (W : WX) (st : List Stmt) (t : TS) (m : MS) : Prop where
  ps : PSs X st t
  run : RunS G W t m
variable {st : Stmt} {sts : List Stmt} {t u tb : TS} {m m' mb : MS} {a b c e : Expr} {ta te : TE} {fa fe : Loc → M D} {pos : Pos} {es : List Expr} {tA : TA} {fA : Loc → M (List D)} {A1 : TT} {f1 : Loc → M Bool}

def sseq (m m' : MS) : MS := fun ρ s => match m ρ s with
  | .nx ρ' s' => m' ρ' s'
  | .ret d s' => .ret d s'
  | .bk ρ' s' => .bk ρ' s'
  | .ct ρ' s' => .ct ρ' s'
  | .exc c ns xs ρ' s' => .exc c ns xs ρ' s'
  | .bad => .bad
theorem run_seq (h1 : RunS G W t m) (h2 : RunS G W u m') : RunS G W (tSeq t u) (sseq m m') := by
  intro p σ H ρ s Z e pk fin
  refine h1 p σ H ρ s _ e pk ?_
  unfold sseq at fin
  cases h : m ρ s with
  | nx ρ' s' => rw [h] at fin; exact fun σ' H' k pk' e' => h2 p σ' H' ρ' s' Z e' pk' (FinS.keep k fin)
  | ret d s' => rw [h] at fin; exact fin
  | bk ρ' s' => rw [h] at fin; exact fin
  | ct ρ' s' => rw [h] at fin; exact fin
  | exc c ns xs ρ' s' => rw [h] at fin; exact fin
  | bad => rw [h] at fin; exact fin
theorem dss_nil : DSs G X W [] tNext (fun ρ s => .nx ρ s) := ⟨pss_nil, fun p σ H ρ s Z e pk fin => fin σ H Keep.refl pk e⟩
theorem dss_cons (h1 : DS G X W st t m) (h2 : DSs G X W sts u m') : DSs G X W (st :: sts) (tSeq t u) (sseq m m') := ⟨pss_cons h1.ps h2.ps, run_seq h1.run h2.run⟩
theorem dss_one (h1 : DS G X W st t m) : DSs G X W [st] t m := ⟨pss_one h1.ps, h1.run⟩
theorem ds_pass : DS G X W (.Pass pos) tNext (fun ρ s => .nx ρ s) := ⟨ps_pass, fun p σ H ρ s Z e pk fin => fin σ H Keep.refl pk e⟩
theorem ds_break : DS G X W (.Break pos) tBreak (fun ρ s => .bk ρ s) := ⟨ps_break, fun p σ H ρ s Z e pk fin => fin σ H Keep.refl pk e⟩
theorem ds_continue : DS G X W (.Continue pos) tCont (fun ρ s => .ct ρ s) := ⟨ps_continue, fun p σ H ρ s Z e pk fin => fin σ H Keep.refl pk e⟩
/-- an expression's outcome, then -/
def sof {α : Type} (o : Out α) (ρ : Loc) (k : α → Pen → OutS) : OutS := match o with
  | .ok a s => k a s
  | .exc c ns xs s => .exc c ns xs ρ s
  | .bad => .bad
theorem FinS.step {α β : Type} {R : Fm → Hp → α → β → Prop} {p : Fm} {σ : St} {H : Hp} {ρ : Loc} {Z : Ends} {o : Out α} {k : α → Pen → OutS} {Q : β → Hp → Prop} (fin : FinS G W p H Z (sof o ρ k)) (e : ∀ H1 s1, Keep p H H1 → PenOk G p H1 s1 → EnvOk G p H1 σ ρ)
    (hb : ∀ a s1 b H1, Keep p H H1 → PenOk G p H1 s1 → R p H1 a b → FinS G W p H1 Z (k a s1) → Q b H1) : FinG G W R p σ H Q o := by
  cases o with
  | ok a s1 => exact fun b H1 k1 pk1 r => hb a s1 b H1 k1 pk1 r (FinS.keep k1 fin)
  | exc c ns xs s1 => exact fun dd H1 k1 pk1 x => fin dd σ H1 k1 pk1 (e H1 s1 k1 pk1) x
  | bad => exact fin
theorem ds_expr (he : DE G X W e te fe) (hs : swapsWith e none pos.line X.env = pure false := by rfl) : DS G X W (.Expr e pos) (tDrop te) (fun ρ s => sof (fe ρ s) ρ fun _ s' => .nx ρ s') := by
  refine ⟨ps_expr he.pe hs, fun p σ H ρ s Z e pk fin => ?_⟩
  exact he.run p σ H ρ s _ e pk (fin.step (fun H1 s1 k1 pk1 => e.keep pk.at k1) fun d s1 v H1 k1 pk1 rd fin1 => fin1 σ H1 Keep.refl pk1 (e.keep pk.at k1))
theorem ds_ret (he : DE G X W e te fe) : DS G X W (.Return (some e) pos) (tRet te) (fun ρ s => sof (fe ρ s) ρ fun d s' => .ret d s') := by
  refine ⟨ps_ret he.pe, fun p σ H ρ s Z e pk fin => ?_⟩
  exact he.run p σ H ρ s _ e pk (fin.step (fun H1 s1 k1 pk1 => e.keep pk.at k1) fun d s1 v H1 k1 pk1 rd fin1 => fin1 v H1 Keep.refl pk1 rd)
theorem ds_retN : DS G X W (.Return none pos) tRetN (fun _ s => .ret .non s) := ⟨ps_retN, fun p σ H ρ s Z e pk fin => fin _ H Keep.refl pk rfl⟩
theorem ds_if {x y : List Stmt} (hc : DT G X W c A1 f1) (ha : DSs G X W x t m) (hb : DSs G X W y u m') : DS G X W (.If c x y pos) (tIfS A1 t u) (fun ρ s => sof (f1 ρ s) ρ fun k s' => if k = true then m ρ s' else m' ρ s') := by
  refine ⟨ps_if hc.pt ha.ps hb.ps, fun p σ H ρ s Z e pk fin => ?_⟩
  refine hc.run p σ H ρ s _ e pk (fin.step (fun H1 s1 k1 pk1 => e.keep pk.at k1) fun x s1 b H1 k1 pk1 rx fin1 => ?_)
  obtain rfl : b = x := rx
  cases b with
  | true =>
    rw [if_pos rfl] at fin1 ⊢
    exact ha.run p σ H1 ρ s1 Z (e.keep pk.at k1) pk1 fin1
  | false =>
    rw [if_neg Bool.false_ne_true] at fin1 ⊢
    exact hb.run p σ H1 ρ s1 Z (e.keep pk.at k1) pk1 fin1

/-! ### targets -/
/-- only the slots in vs differ -/
def Off (vs : List Nat) (σ σ' : St) : Prop := σ'.length = σ.length ∧ ∀ i, i ∉ vs → σ'[i]? = σ[i]?
def RunGt (G : Gt) (vs : List Nat) (g : TG) (gm : D → Loc → Option Loc) : Prop :=
  ∀ (p : Fm) (σ : St) (H : Hp) (ρ : Loc) (d : D) (v : V) (Q : St → Hp → Prop), EnvOk G p H σ ρ → Rep G p H d v → (match gm d ρ with | some ρ' => ∀ σ', EnvOk G p H σ' ρ' → Off vs σ σ' → Q σ' H | none => False) → g v σ H Q
def RunGs (G : Gt) (vs : List Nat) (g : TGs) (gm : List D → Loc → Option Loc) : Prop :=
  ∀ (p : Fm) (σ : St) (H : Hp) (ρ : Loc) (ds : List D) (us : List V) (Q : St → Hp → Prop), EnvOk G p H σ ρ → RepL G p H ds us → (match gm ds ρ with | some ρ' => ∀ σ', EnvOk G p H σ' ρ' → Off vs σ σ' → Q σ' H | none => False) → g us σ H Q
structure DG (G : Gt) (X : Cx) (vs : List Nat) (tg : Expr) (g : TG) (gm : D → Loc → Option Loc) : Prop where
  pg : PG X tg g
  run : RunGt G vs g gm
structure DGs (G : Gt) (X : Cx) (vs : List Nat) (tg : List Expr) (g : TGs) (gm : List D → Loc → Option Loc) : Prop where
  pg : PGs X tg g
  run : RunGs G vs g gm
theorem off_set {σ : St} {i : Nat} {o : Option V} {vs : List Nat} (h : i ∈ vs) : Off vs σ (σ.set i o) := ⟨by simp, fun j hj => by
  rw [List.getElem?_set, if_neg]
  intro e
  subst e
  exact hj h⟩
theorem Off.trans {vs : List Nat} {σ σ1 σ2 : St} (a : Off vs σ σ1) (b : Off vs σ1 σ2) : Off vs σ σ2 := ⟨b.1.trans a.1, fun i hi => (b.2 i hi).trans (a.2 i hi)⟩
theorem Off.refl {vs : List Nat} {σ : St} : Off vs σ σ := ⟨rfl, fun _ _ => rfl⟩
def gnm (i : Nat) : D → Loc → Option Loc := fun d ρ => some (ρ.set i (some d))
theorem dg_name {vs : List Nat} {i : Nat} {x : Str} (hv : i ∈ vs) (hN : X.N.Nodup) (hi : X.N[i]? = some x := by rfl) (hx : L2.Loc X.env.scope x := by first | exact Or.inl rfl | exact Or.inr rfl) (hf : X.fn x = true ∨ X.env.scope.names.lookup x = some .local := by first | exact .inl rfl | exact .inr rfl | assumption) : DG G X vs (.Name x pos) (gName i) (gnm i) :=
  ⟨pg_name hN hi hx hf, fun p σ H ρ d v Q e rd h => h _ (e.set rd) (off_set hv)⟩
theorem dgs_nil {vs : List Nat} : DGs G X vs [] gNil (fun ds ρ => match ds with | [] => some ρ | _ => none) := by
  refine ⟨pgs_nil, fun p σ H ρ ds us Q e rs h => ?_⟩
  cases ds with
  | nil =>
    obtain rfl : us = [] := rs
    exact ⟨rfl, h _ e Off.refl⟩
  | cons d ds => exact h.elim
def gcn (g1 : D → Loc → Option Loc) (g2 : List D → Loc → Option Loc) : List D → Loc → Option Loc := fun ds ρ => match ds with
  | d :: r => (match g1 d ρ with
    | some ρ' => g2 r ρ'
    | none => none)
  | [] => none
theorem dgs_cons {vs : List Nat} {g : TG} {gs : TGs} {g1 : D → Loc → Option Loc} {g2 : List D → Loc → Option Loc} (h1 : DG G X vs e g g1) (h2 : DGs G X vs es gs g2) (hp : PGs X (e :: es) (gCons g gs)) : DGs G X vs (e :: es) (gCons g gs) (gcn g1 g2) := by
  refine ⟨hp, fun p σ H ρ ds us Q en rs h => ?_⟩
  cases ds with
  | nil => exact h.elim
  | cons d r =>
    obtain ⟨v, vr, rfl, rd, rr⟩ := rs
    refine ⟨v, vr, rfl, ?_⟩
    refine h1.run p σ H ρ d v _ en rd ?_
    unfold gcn at h
    dsimp only at h
    cases q : g1 d ρ with
    | none => rw [q] at h; exact h.elim
    | some ρ' =>
      rw [q] at h
      intro σ' e' o'
      refine h2.run p σ' H ρ' r vr Q e' rr ?_
      dsimp only at h
      cases q2 : g2 r ρ' with
      | none => rw [q2] at h; exact h.elim
      | some ρ2 =>
        rw [q2] at h
        exact fun σ2 e2 o2 => h σ2 e2 (o'.trans o2)
def gtm (n : Nat) (g : List D → Loc → Option Loc) : D → Loc → Option Loc := fun d ρ => match d with
  | .tup ds => if decide (ds.length = n) = true then g ds ρ else none
  | _ => none
def glm (n : Nat) (g : List D → Loc → Option Loc) : D → Loc → Option Loc := fun d ρ => match d with
  | .lst ds => if decide (ds.length = n) = true then g ds ρ else none
  | _ => none
theorem dg_tup {vs : List Nat} {n : Nat} {gs : TGs} {g2 : List D → Loc → Option Loc} {tg : Expr} (h : RunGs G vs gs g2) (hp : PG X tg (gTup K n gs)) : DG G X vs tg (gTup K n gs) (gtm n g2) := by
  refine ⟨hp, fun p σ H ρ d v Q en rd q => ?_⟩
  unfold gtm at q
  cases d <;> first
    | exact q.elim
    | skip
  rename_i ds
  obtain ⟨a, us, rfl, h0, h1, rs⟩ := rd
  dsimp only at q
  by_cases hl : ds.length = n
  · rw [if_pos (decide_eq_true hl)] at q
    exact ⟨a, us, rfl, SqT.of h1, by rw [← repL_len rs]; exact hl, h p σ H ρ ds us Q en rs q⟩
  · rw [if_neg (by simp [hl])] at q
    exact q.elim
theorem dg_lst {vs : List Nat} {n : Nat} {gs : TGs} {g2 : List D → Loc → Option Loc} {tg : Expr} (h : RunGs G vs gs g2) (hp : PG X tg (gLst K n gs)) : DG G X vs tg (gLst K n gs) (glm n g2) := by
  refine ⟨hp, fun p σ H ρ d v Q en rd q => ?_⟩
  unfold glm at q
  cases d <;> first
    | exact q.elim
    | skip
  rename_i ds
  obtain ⟨a, us, rfl, h0, h1, rs⟩ := rd
  dsimp only at q
  by_cases hl : ds.length = n
  · rw [if_pos (decide_eq_true hl)] at q
    exact ⟨a, us, rfl, SqL.of h1, by rw [← repL_len rs]; exact hl, h p σ H ρ ds us Q en rs q⟩
  · rw [if_neg (by simp [hl])] at q
    exact q.elim
def sasg (fe : Loc → M D) (gm : D → Loc → Option Loc) : MS := fun ρ s => sof (fe ρ s) ρ fun d s' => match gm d ρ with
  | some ρ' => .nx ρ' s'
  | none => .bad
theorem run_asg {vs : List Nat} {g : TG} {gm : D → Loc → Option Loc} (he : RunG G W (RelE G) te fe) (hg : RunGt G vs g gm) : RunS G W (tAsg te g) (sasg fe gm) := by
  intro p σ H ρ s Z e pk fin
  refine he p σ H ρ s _ e pk (FinS.step fin (fun H1 s1 k1 pk1 => e.keep pk.at k1) fun d s1 v H1 k1 pk1 rd fin1 => ?_)
  refine hg p σ H1 ρ d v _ (e.keep pk.at k1) rd ?_
  cases h : gm d ρ with
  | none => rw [h] at fin1; exact fin1
  | some ρ' => rw [h] at fin1; exact fun σ' e' _ => fin1 σ' H1 Keep.refl pk1 e'
theorem ds_asg {vs : List Nat} {tg : Expr} {g : TG} {gm : D → Loc → Option Loc} (he : DE G X W e te fe) (hg : DG G X vs tg g gm) (hs : swapsWithSole [tg] e pos.line X.env = pure false := by rfl) (hw : swappedStores [tg] e X.env = pure none := by rfl)
    (h1 : (assignEach [tg] X.env).map (·.2) = [assign tg X.env] := by rfl) : DS G X W (.Assign [tg] e pos) (tAsg te g) (sasg fe gm) := ⟨ps_asg he.pe hg.pg hs hw h1, run_asg he.run hg.run⟩
theorem run_gname {i : Nat} : RunGt G [i] (gName i) (gnm i) := fun p σ H ρ d v Q e rd h => h _ (e.set rd) (off_set (List.mem_singleton.mpr rfl))
theorem ds_set {i : Nat} {x : Str} {pos' : Pos} (hN : X.N.Nodup) (he : DE G X W e te fe) (hi : X.N[i]? = some x := by rfl) (hx : L2.Loc X.env.scope x := by first | exact Or.inl rfl | exact Or.inr rfl) (hs : swapsWith e (some (.Name x pos')) pos.line X.env = pure false := by rfl) (hf : X.fn x = true ∨ X.env.scope.names.lookup x = some .local := by first | exact .inl rfl | exact .inr rfl | assumption) :
    DS G X W (.Assign [.Name x pos'] e pos) (tAsg te (gName i)) (sasg fe (gnm i)) := ⟨ps_set hN hi hx he.pe hs hf, run_asg he.run run_gname⟩
/-- a, b = x, y -/
def spar (i j : Nat) (fA : Loc → M (List D)) : MS := fun ρ s => sof (fA ρ s) ρ fun ds s' => match ds with
  | [x, y] => .nx ((ρ.set i (some x)).set j (some y)) s'
  | _ => .bad
theorem run_par {i j : Nat} (ha : RunG G W (RelA G) tA fA) : RunS G W (tPar i j tA) (spar i j fA) := by
  intro p σ H ρ s Z e pk fin
  refine ha p σ H ρ s _ e pk (FinS.step fin (fun H1 s1 k1 pk1 => e.keep pk.at k1) fun ds s1 vs H1 k1 pk1 rs fin1 => ?_)
  cases ds with
  | nil => exact fin1.elim
  | cons x r =>
    cases r with
    | nil => exact fin1.elim
    | cons y r =>
      cases r with
      | nil =>
        obtain ⟨v, _, rfl, rx, w, _, rfl, ry, hz⟩ := rs
        obtain rfl := hz
        exact ⟨v, w, rfl, fin1 _ H1 Keep.refl pk1 (((e.keep pk.at k1).set rx).set ry)⟩
      | cons z r => exact fin1.elim

/-! ### what is walked -/
/-- the items of an iterator, whatever else happens meanwhile -/
def Wider (p q : Fm) (H1 : Hp) : Prop := q.pen = p.pen ∧ q.obj = p.obj ∧ ∀ a o, H1 a = some o → ¬ p.out a → ¬ q.out a
theorem Fm.mut_eq {p q : Fm} (h1 : q.pen = p.pen) (h2 : q.obj = p.obj) {a : Addr} : q.mut a ↔ p.mut a := by unfold Fm.mut; rw [h1, h2]
theorem Wider.refl {p : Fm} {H1 : Hp} : Wider p p H1 := ⟨rfl, rfl, fun _ _ _ h => h⟩
def IterOk (G : Gt) (p : Fm) (H1 : Hp) (ds : List D) (J : It) : Prop :=
  ∀ q H s, Wider p q H1 → Keep p H1 H → PenOk G q H s → (∀ (i : Nat) d, ds[i]? = some d → J.go i H ∧ ∀ x H', J.yld i H x H' → Keep q H H' ∧ PenOk G q H' s ∧ Rep G q H' d x) ∧ J.stop ds.length H
abbrev RelI (G : Gt) : Fm → Hp → List D → It → Prop := fun p H ds J => IterOk G p H ds J
structure DI (G : Gt) (X : Cx) (W : WX) (tg iter : Expr) (wi : TI) (m : Loc → M (List D)) : Prop where
  pi : PI X tg iter wi
  run : RunG G W (RelI G) wi m
def asL (d : D) : M (List D) := match d with
  | .lst xs => mret xs
  | _ => mbad
def asT (d : D) : M (List D) := match d with
  | .tup xs => mret xs
  | _ => mbad
theorem iter_list {p : Fm} {H1 : Hp} {a : Addr} {vs : List V} {ds : List D} {s1 : Pen} (pk1 : PenOk G p H1 s1) (h0 : ¬ p.out a) (h : H1 a = some (.lst vs)) (rs : RepL G p H1 ds vs) : IterOk G p H1 ds (Itl K a) := by
  intro q H s wd k pk
  have h' : H a = some (.lst vs) := k _ _ (Fm.no h0) h
  have rs' := repL_keep (p := q) trivial (fun a o n e => k a o (fun z => n ((Fm.mut_eq wd.1 wd.2.1).mpr z)) e) _ _ (repL_out wd.1 wd.2.1 wd.2.2 _ _ rs)
  refine ⟨fun i d e => ?_, ⟨vs, SqL.of h', by rw [repL_len rs']; exact Nat.le_refl _⟩⟩
  obtain ⟨v, e1, e2⟩ := repL_get rs' e
  refine ⟨⟨vs, v, SqL.of h', e1⟩, fun x H' y => ?_⟩
  obtain ⟨rfl, y⟩ := y
  have ex := y vs (SqL.of h')
  rw [e1] at ex
  cases ex
  exact ⟨Keep.refl, pk, e2⟩
theorem iter_tup {p : Fm} {H1 : Hp} {a : Addr} {vs : List V} {ds : List D} {s1 : Pen} (pk1 : PenOk G p H1 s1) (h0 : ¬ p.out a) (h : H1 a = some (.tup vs)) (rs : RepL G p H1 ds vs) : IterOk G p H1 ds (Itt K a) := by
  intro q H s wd k pk
  have h' : H a = some (.tup vs) := k _ _ (Fm.no h0) h
  have rs' := repL_keep (p := q) trivial (fun a o n e => k a o (fun z => n ((Fm.mut_eq wd.1 wd.2.1).mpr z)) e) _ _ (repL_out wd.1 wd.2.1 wd.2.2 _ _ rs)
  refine ⟨fun i d e => ?_, ⟨vs, SqT.of h', by rw [repL_len rs']; exact Nat.le_refl _⟩⟩
  obtain ⟨v, e1, e2⟩ := repL_get rs' e
  refine ⟨⟨vs, v, SqT.of h', e1⟩, fun x H' y => ?_⟩
  obtain ⟨rfl, y⟩ := y
  have ex := y vs (SqT.of h')
  rw [e1] at ex
  cases ex
  exact ⟨Keep.refl, pk, e2⟩
theorem di_list {tg l : Expr} (hK : X.K = K) (hl : DE G X W l te fe) : DI G X W tg l (iList K te) (fun ρ => mbind (fe ρ) asL) := by
  subst hK
  refine ⟨pi_list hl.pe, fun p σ H ρ s Q e pk fin => ?_⟩
  refine hl.run p σ H ρ s _ e pk (fin.step fun d s1 v H1 k1 pk1 rd fin1 => ?_)
  cases d <;> first
    | exact fin1.elim
    | skip
  rename_i ds
  obtain ⟨a, vs, rfl, h0, h1, rs⟩ := rd
  exact ⟨a, rfl, ⟨vs, SqL.of h1⟩, fin1 _ H1 Keep.refl pk1 (iter_list pk1 h0 h1 rs)⟩
theorem di_tup {tg l : Expr} (hK : X.K = K) (hl : DE G X W l te fe) : DI G X W tg l (iTup K te) (fun ρ => mbind (fe ρ) asT) := by
  subst hK
  refine ⟨pi_tup hl.pe, fun p σ H ρ s Q e pk fin => ?_⟩
  refine hl.run p σ H ρ s _ e pk (fin.step fun d s1 v H1 k1 pk1 rd fin1 => ?_)
  cases d <;> first
    | exact fin1.elim
    | skip
  rename_i ds
  obtain ⟨a, vs, rfl, h0, h1, rs⟩ := rd
  exact ⟨a, rfl, ⟨vs, SqT.of h1⟩, fin1 _ H1 Keep.refl pk1 (iter_tup pk1 h0 h1 rs)⟩
def rngL (lo : Int) (n : Nat) : List D := (List.range n).map fun i => .int (lo + (i : Nat))
theorem iter_rng {p : Fm} {H1 : Hp} {lo : Int} {n : Nat} : IterOk G p H1 (rngL lo n) (Itr lo n) := by
  intro q H s wd k pk
  refine ⟨fun i d e => ?_, by show n ≤ (rngL lo n).length; simp [rngL]⟩
  have hi : i < n := by
    obtain ⟨h, _⟩ := List.getElem?_eq_some_iff.mp e
    simpa [rngL] using h
  refine ⟨hi, fun x H' y => ?_⟩
  obtain ⟨rfl, rfl⟩ := y
  have ed : d = .int (lo + i) := by
    simp [rngL, List.getElem?_map, List.getElem?_range hi] at e
    exact e.symm
  subst ed
  exact ⟨Keep.refl, pk, rfl⟩
def rng1 (ds : List D) : M (List D) := match ds with
  | [.int j] => if decide (j < 100000) = true ∧ decide (-100000 < j) = true then mret (rngL 0 j.toNat) else mbad
  | _ => mbad
def rng2 (ds : List D) : M (List D) := match ds with
  | [.int i, .int j] => if decide (j < 100000) = true ∧ decide (-100000 < j) = true ∧ decide (i < 100000) = true ∧ decide (-100000 < i) = true then mret (rngL i (j - i).toNat) else mbad
  | _ => mbad
theorem di_range1 {tg : Expr} {p0 : Pos} (hg : Gl X "range") (hm : X.mg "range" = none) (ha : DA G X W [a] tA fA) (hs : starEach [a] X.env = [(false, eval a X.env)] := by rfl) : DI G X W tg (.Call (.Name "range" p0) [a] [] pos) (iRng1 tA) (fun ρ => mbind (fA ρ) rng1) := by
  refine ⟨pi_range1 hg hm ha.pa hs, fun p σ H ρ s Q e pk fin => ?_⟩
  refine ha.run p σ H ρ s _ e pk (fin.step fun ds s1 vs H1 k1 pk1 rs fin1 => ?_)
  unfold rng1 at fin1
  split at fin1
  · split at fin1
    · rename_i j hj
      obtain ⟨v, _, rfl, rx, hz⟩ := rs
      obtain rfl := hz
      obtain rfl : v = .int j := rx
      have h1 := of_decide_eq_true hj.1
      have h2 := of_decide_eq_true hj.2
      exact ⟨j, rfl, by omega, by omega, fin1 _ H1 Keep.refl pk1 iter_rng⟩
    · exact fin1.elim
  · exact fin1.elim
theorem di_range2 {tg : Expr} {p0 : Pos} (hg : Gl X "range") (hm : X.mg "range" = none) (ha : DA G X W [a, b] tA fA) (hs : starEach [a, b] X.env = [(false, eval a X.env), (false, eval b X.env)] := by rfl) (hs2 : starEach [b] X.env = [(false, eval b X.env)] := by rfl) :
    DI G X W tg (.Call (.Name "range" p0) [a, b] [] pos) (iRng2 tA) (fun ρ => mbind (fA ρ) rng2) := by
  refine ⟨pi_range2 hg hm ha.pa hs hs2, fun p σ H ρ s Q e pk fin => ?_⟩
  refine ha.run p σ H ρ s _ e pk (fin.step fun ds s1 vs H1 k1 pk1 rs fin1 => ?_)
  unfold rng2 at fin1
  split at fin1
  · split at fin1
    · rename_i i j hj
      obtain ⟨v, _, rfl, rx, w, _, rfl, ry, hz⟩ := rs
      obtain rfl := hz
      obtain rfl : v = .int i := rx
      obtain rfl : w = .int j := ry
      have h1 := of_decide_eq_true hj.1
      have h2 := of_decide_eq_true hj.2.1
      have h3 := of_decide_eq_true hj.2.2.1
      have h4 := of_decide_eq_true hj.2.2.2
      exact ⟨i, j, rfl, ⟨by omega, by omega, by omega, by omega⟩, fin1 _ H1 Keep.refl pk1 iter_rng⟩
    · exact fin1.elim
  · exact fin1.elim

/-! ### for -/
def sloop (gm : D → Loc → Option Loc) (mb : MS) : List D → MS
  | [] => fun ρ s => .nx ρ s
  | d :: ds => fun ρ s => match gm d ρ with
    | none => .bad
    | some ρ1 => (match mb ρ1 s with
      | .nx ρ2 s2 => sloop gm mb ds ρ2 s2
      | .ct ρ2 s2 => sloop gm mb ds ρ2 s2
      | .bk ρ2 s2 => .nx ρ2 s2
      | .ret d s2 => .ret d s2
      | .exc c ns xs ρ2 s2 => .exc c ns xs ρ2 s2
      | .bad => .bad)
def sfor (fi : Loc → M (List D)) (gm : D → Loc → Option Loc) (mb : MS) : MS := fun ρ s => sof (fi ρ s) ρ fun ds s' => sloop gm mb ds ρ s'
theorem run_for {vs : List Nat} {wi : TI} {g : TG} {gm : D → Loc → Option Loc} {fi : Loc → M (List D)} (hi : RunG G W (RelI G) wi fi) (hg : RunGt G vs g gm) (hb : RunS G W tb mb) : RunS G W (tFor wi g tb) (sfor fi gm mb) := by
  intro p σ H ρ s Z e pk fin
  refine hi p σ H ρ s _ e pk (FinS.step fin (fun H1 s1 k1 pk1 => e.keep pk.at k1) fun ds s1 J H1 k1 pk1 it fin1 => ?_)
  refine ⟨fun i n σ' H' => n = ds.length - i ∧ i ≤ ds.length ∧ ∃ ρ' s', EnvOk G p H' σ' ρ' ∧ PenOk G p H' s' ∧ Keep p H1 H' ∧ FinS G W p H' Z (sloop gm mb (ds.drop i) ρ' s'), ⟨ds.length, by simp, Nat.zero_le _, ρ, s1, e.keep pk.at k1, pk1, Keep.refl, fin1⟩, ?_⟩
  rintro i n σ' H' ⟨rfl, hle, ρ', s', e', pk', k', fin'⟩
  obtain ⟨hgo, hst⟩ := it p H' s' Wider.refl k' pk'
  by_cases hlt : i < ds.length
  · have ed : ds[i]? = some ds[i] := List.getElem?_eq_some_iff.mpr ⟨hlt, rfl⟩
    obtain ⟨g1, g2⟩ := hgo i _ ed
    rw [List.drop_eq_getElem_cons hlt] at fin'
    refine .inr ⟨g1, fun σ2 H2 => ∃ ρ2 s2, EnvOk G p H2 σ2 ρ2 ∧ PenOk G p H2 s2 ∧ Keep p H1 H2 ∧ FinS G W p H2 Z (sloop gm mb (ds.drop (i + 1)) ρ2 s2), fun σ2 H2 h => ⟨ds.length - (i + 1), by omega, rfl, hlt, h⟩, fun x Hx y => ?_⟩
    obtain ⟨kx, pkx, rx⟩ := g2 x Hx y
    refine hg p σ' Hx ρ' _ x _ (e'.keep pk'.at kx) rx ?_
    have fin2 := FinS.keep kx fin'
    unfold sloop at fin2
    cases q : gm ds[i] ρ' with
    | none => rw [q] at fin2; exact fin2
    | some ρ1 =>
      rw [q] at fin2
      intro σ2 e2 _
      refine hb p σ2 Hx ρ1 s' _ e2 pkx ?_
      dsimp only at fin2
      cases q2 : mb ρ1 s' with
      | nx ρ2 s2 => rw [q2] at fin2; exact fun σ3 H3 k3 pk3 e3 => ⟨ρ2, s2, e3, pk3, (k'.trans kx).trans k3, FinS.keep k3 fin2⟩
      | ct ρ2 s2 => rw [q2] at fin2; exact fun σ3 H3 k3 pk3 e3 => ⟨ρ2, s2, e3, pk3, (k'.trans kx).trans k3, FinS.keep k3 fin2⟩
      | bk ρ2 s2 => rw [q2] at fin2; exact fin2
      | ret d s2 => rw [q2] at fin2; exact fin2
      | exc c ns xs ρ2 s2 => rw [q2] at fin2; exact fin2
      | bad => rw [q2] at fin2; exact fin2
  · have ei : i = ds.length := by omega
    subst ei
    rw [List.drop_length] at fin'
    exact .inl ⟨hst, fin' σ' H' Keep.refl pk' e'⟩
theorem ds_for {vs : List Nat} {tg iter : Expr} {body : List Stmt} {wi : TI} {g : TG} {gm : D → Loc → Option Loc} {fi : Loc → M (List D)} (hp : PassesOwn (model X.prog X.w) X.A X.env X.xe) (hc : X.calm = true) (hi : DI G X W tg iter wi fi) (hg : DG G X vs tg g gm) (hb : DSs G X W body tb mb)
    (hs : ∀ x, foldedSetIterable iter X.env x = pure x := by intro _; rfl) : DS G X W (.For tg iter body [] pos) (tFor wi g tb) (sfor fi gm mb) := ⟨ps_for hp hc hi.pi hg.pg hb.ps hs, run_for hi.run hg.run hb.run⟩


/-! ### comprehensions -/
def nox {α : Type} (m : M α) : M α := fun s => match m s with
  | .ok a s' => .ok a s'
  | _ => .bad
def cloop (gm : D → Loc → Option Loc) (mt : Loc → M Bool) (me : Loc → M D) : List D → Loc → List D → M (List D)
  | [], _, acc => mret acc
  | d :: ds, ρ, acc => match gm d ρ with
    | none => mbad
    | some ρ1 => mbind (nox (mt ρ1)) fun c => if c = true then (mbind (nox (me ρ1)) fun y => if decide (acc.length < 100000) = true then cloop gm mt me ds ρ (acc ++ [y]) else mbad) else cloop gm mt me ds ρ acc
def wipeL (ρ : Loc) : List Nat → Loc
  | [] => ρ
  | v :: vs => (wipeL ρ vs).set v none
theorem wipeL_len (ρ : Loc) : ∀ vs, (wipeL ρ vs).length = ρ.length
  | [] => rfl
  | v :: vs => by unfold wipeL; rw [List.length_set]; exact wipeL_len ρ vs
theorem wipeL_some {ρ : Loc} {i : Nat} {d : D} : ∀ {vs : List Nat}, (wipeL ρ vs)[i]? = some (some d) → ρ[i]? = some (some d) ∧ i ∉ vs
  | [], h => ⟨h, by simp⟩
  | v :: vs, h => by
    unfold wipeL at h
    rw [List.getElem?_set] at h
    by_cases e : v = i
    · subst e
      simp only [if_true] at h
      split at h <;> cases h
    · rw [if_neg e] at h
      obtain ⟨h1, h2⟩ := wipeL_some h
      exact ⟨h1, by simp [h2, Ne.symm e]⟩
theorem wipe_in {σ : St} {i : Nat} : ∀ {vs : List Nat}, i ∈ vs → (wipe σ vs)[i]? = if i < σ.length then some none else none
  | [], h => by cases h
  | v :: vs, h => by
    unfold wipe
    rw [List.getElem?_set, wipe_length]
    by_cases e : v = i
    · subst e; simp
    · rw [if_neg e]
      exact wipe_in ((List.mem_cons.mp h).resolve_left (Ne.symm e))
theorem wipe_off {σ σ2 : St} {vs : List Nat} (h : Off vs (wipe σ vs) σ2) : wipe σ2 vs = wipe σ vs := by
  refine List.ext_getElem? fun i => ?_
  have hl : σ2.length = σ.length := h.1.trans (wipe_length σ vs)
  by_cases e : i ∈ vs
  · rw [wipe_in e, wipe_in e, hl]
  · rw [wipe_out e, h.2 i e]
theorem EnvOk.wipe {p : Fm} {H : Hp} {σ : St} {ρ : Loc} {vs : List Nat} (e : EnvOk G p H σ ρ) : EnvOk G p H (wipe σ vs) (wipeL ρ vs) := by
  refine ⟨by rw [wipe_length, wipeL_len]; exact e.1, fun i d h => ?_⟩
  obtain ⟨h1, h2⟩ := wipeL_some h
  obtain ⟨v, h3, h4⟩ := e.2 i d h1
  exact ⟨v, by rw [wipe_out h2]; exact h3, h4⟩
theorem EnvOk.upd {p : Fm} {H : Hp} {σ : St} {ρ : Loc} {a : Addr} {o : HO} (e : EnvOk G p H σ ρ) (ha : p.out a) : EnvOk G p (L2.upd H a o) σ ρ :=
  ⟨e.1, fun i d h => let ⟨v, h1, h2⟩ := e.2 i d h; ⟨v, h1, rep_upd ha d v h2⟩⟩
theorem EnvOk.out {p q : Fm} {H : Hp} {σ : St} {ρ : Loc} (e : EnvOk G p H σ ρ) (w : Wider p q H) : EnvOk G q H σ ρ :=
  ⟨e.1, fun i d h => let ⟨v, h1, h2⟩ := e.2 i d h; ⟨v, h1, rep_out w.1 w.2.1 w.2.2 d v h2⟩⟩
theorem PenOk.upd {p : Fm} {H : Hp} {s : Pen} {a : Addr} {o : HO} (h : PenOk G p H s) (ha : p.out a) (hn : ¬ p.mut a) : PenOk G p (L2.upd H a o) s := by
  refine ⟨fun b kd e => (h.1 b kd e).keep (upd_ne fun z => hn (.inl ⟨kd, by rw [← z]; exact e⟩)) fun c u hc eh => ?_, fun x c dx e => ?_, fun b hb => ?_⟩
  · rw [upd_ne (fun z => hc (by rw [z]; exact ha))]; exact eh
  · obtain ⟨vs, h1, hl, h2⟩ := h.2.1 x c dx e
    exact ⟨vs, by rw [upd_ne (fun z => hn (.inr ⟨c, dx, by rw [← z]; exact e⟩))]; exact h1, hl, repL_upd ha _ _ h2⟩
  · by_cases e : b = a
    · subst e; exact ⟨o, upd_same⟩
    · rw [upd_ne e]; exact h.2.2 b hb
/-- one address more that no tree names -/
def Fm.add (p : Fm) (a : Addr) : Fm := ⟨p.pen, p.obj, fun b => p.out b ∨ b = a, fun b kd e => .inl (p.okp b kd e), fun x c d e => .inl (p.oko x c d e), p.neo⟩
theorem wider_add {p : Fm} {H : Hp} {a : Addr} (n : H a = none) : Wider p (p.add a) H := ⟨rfl, rfl, fun b o e h z => z.elim h fun z => ne_of_none e n z⟩
theorem PenOk.add {p : Fm} {H : Hp} {s : Pen} {a : Addr} {o : HO} (h : PenOk G p H s) (n : H a = none) : PenOk G (p.add a) (L2.upd H a o) s := by
  have h' : PenOk G p (L2.upd H a o) s := h.new n
  refine ⟨fun b kd e => ?_, fun x c dx e => ?_, fun b hb => ?_⟩
  · rcases h.1 b kd e with ⟨e1, e2⟩ | ⟨e1, c, h0, h1, h2⟩
    · exact .inl ⟨e1, by rw [upd_ne (ne_of_none e2 n)]; exact e2⟩
    · exact .inr ⟨e1, c, fun z => z.elim h0 fun z => ne_of_none h2 n z, by rw [upd_ne (ne_of_none h1 n)]; exact h1, by rw [upd_ne (ne_of_none h2 n)]; exact h2⟩
  · obtain ⟨vs, h1, hl, h2⟩ := h.2.1 x c dx e
    exact ⟨vs, by rw [upd_ne (ne_of_none h1 n)]; exact h1, hl, repL_keep trivial (Keep.new n) _ _ (repL_out (p := p) (q := p.add a) rfl rfl (wider_add n).2.2 _ _ h2)⟩
  · by_cases e : b = a
    · subst e; exact ⟨o, upd_same⟩
    · rw [upd_ne e]; exact h.2.2 b (hb.resolve_right e)
theorem PenOk.sub {p : Fm} {H : Hp} {s : Pen} {a : Addr} (h : PenOk G (p.add a) H s) : PenOk G p H s := by
  refine ⟨fun b kd e => ?_, fun x c dx e => ?_, fun b hb => h.2.2 b (.inl hb)⟩
  · rcases h.1 b kd e with e1 | ⟨e1, c, h0, h1, h2⟩
    · exact .inl e1
    · exact .inr ⟨e1, c, fun z => h0 (.inl z), h1, h2⟩
  · obtain ⟨vs, h1, hl, h2⟩ := h.2.1 x c dx e
    exact ⟨vs, h1, hl, repL_out (p := p.add a) (q := p) rfl rfl (fun a o _ h z => h (.inl z)) _ _ h2⟩
theorem PenOk.nomut {p : Fm} {H : Hp} {s : Pen} {a : Addr} (h : PenOk G p H s) (n : H a = none) : ¬ p.mut a := Fm.no (h.free n)
theorem run_lc {vs : List Nat} {wi : TI} {g : TG} {gm : D → Loc → Option Loc} {fi : Loc → M (List D)} {tt : TT} {mt : Loc → M Bool} (hi : RunG G W (RelI G) wi fi) (hg : RunGt G vs g gm) (ht : RunG G (fun _ _ _ _ => False) RelB tt mt) (he : RunG G (fun _ _ _ _ => False) (RelE G) te fe) :
    RunG G W (RelE G) (tLc wi g tt te vs) (fun ρ => mbind (fi ρ) fun ds => mbind (cloop gm mt fe ds (wipeL ρ vs) []) lstD) := by
  intro p σ H ρ s Q e pk fin
  refine hi p σ H ρ s _ e pk (fin.step fun ds s1 J H1 k1 pk1 it fin1 => ?_)
  intro Dd hD
  have e1 : EnvOk G p H1 (wipe σ vs) (wipeL ρ vs) := (e.keep pk.at k1).wipe
  have wd : Wider p (p.add Dd) H1 := wider_add hD
  have hpn : ¬ (p.add Dd).mut Dd := pk1.nomut hD
  refine ⟨fun i n H' => n = ds.length - i ∧ i ≤ ds.length ∧ ∃ ys us s', H' Dd = some (.lst us) ∧ RepL G (p.add Dd) H' ys us ∧ EnvOk G (p.add Dd) H' (wipe σ vs) (wipeL ρ vs) ∧ PenOk G (p.add Dd) H' s' ∧ Keep p H1 H' ∧
    FinG G W (RelE G) p σ H1 Q (mbind (cloop gm mt fe (ds.drop i) (wipeL ρ vs) ys) lstD s'), ⟨ds.length, by simp, Nat.zero_le _, [], [], s1, upd_same, rfl, (e1.out wd).keep trivial (Keep.new hD), pk1.add hD, Keep.new hD, fin1⟩, ?_⟩
  rintro i n H' ⟨rfl, hle, ys, us, s', hd, ry, e', pk', k', fin'⟩
  obtain ⟨hgo, hst⟩ := it (p.add Dd) H' s' wd k' pk'
  by_cases hlt : i < ds.length
  · have ed : ds[i]? = some ds[i] := List.getElem?_eq_some_iff.mpr ⟨hlt, rfl⟩
    obtain ⟨g1, g2⟩ := hgo i _ ed
    rw [List.drop_eq_getElem_cons hlt] at fin'
    refine .inr ⟨g1, fun H2 => ∃ ys us s', H2 Dd = some (.lst us) ∧ RepL G (p.add Dd) H2 ys us ∧ EnvOk G (p.add Dd) H2 (wipe σ vs) (wipeL ρ vs) ∧ PenOk G (p.add Dd) H2 s' ∧ Keep p H1 H2 ∧
      FinG G W (RelE G) p σ H1 Q (mbind (cloop gm mt fe (ds.drop (i + 1)) (wipeL ρ vs) ys) lstD s'), fun H2 h => ⟨ds.length - (i + 1), by omega, rfl, hlt, h⟩, fun x Hx y => ?_⟩
    obtain ⟨kx, pkx, rx⟩ := g2 x Hx y
    refine hg (p.add Dd) (wipe σ vs) Hx (wipeL ρ vs) _ x _ (e'.keep pk'.at kx) rx ?_
    have fin2 : FinG G W (RelE G) p σ H1 Q (obind (cloop gm mt fe (ds[i] :: ds.drop (i + 1)) (wipeL ρ vs) ys s') lstD) := fin'
    unfold cloop at fin2
    cases q : gm ds[i] (wipeL ρ vs) with
    | none => rw [q] at fin2; exact fin2
    | some ρ1 =>
      rw [q] at fin2
      intro σ2 e2 o2
      refine ⟨wipe_off o2, ?_⟩
      have hdx : Hx Dd = some (.lst us) := kx _ _ hpn hd
      refine ht (p.add Dd) σ2 Hx ρ1 s' _ e2 pkx ?_
      dsimp only at fin2
      have fin3 : FinG G W (RelE G) p σ H1 Q (obind (obind (nox (mt ρ1) s') fun c => if c = true then (mbind (nox (fe ρ1)) fun y => if decide (ys.length < 100000) = true then cloop gm mt fe (ds.drop (i + 1)) (wipeL ρ vs) (ys ++ [y]) else mbad) else cloop gm mt fe (ds.drop (i + 1)) (wipeL ρ vs) ys) lstD) := fin2
      unfold nox at fin3
      cases q2 : mt ρ1 s' with
      | exc c ns xs s2 => rw [q2] at fin3; exact False.elim fin3
      | bad => rw [q2] at fin3; exact False.elim fin3
      | ok c s2 =>
        rw [q2] at fin3
        intro b H3 k3 pk3 hb
        obtain rfl : b = c := hb
        have e3 := e2.keep pkx.at k3
        have hd3 : H3 Dd = some (.lst us) := k3 _ _ hpn hdx
        have kk : Keep (p.add Dd) H' H3 := kx.trans k3
        cases b with
        | false =>
          rw [if_neg Bool.false_ne_true]
          have fin4 : FinG G W (RelE G) p σ H1 Q (obind (cloop gm mt fe (ds.drop (i + 1)) (wipeL ρ vs) ys s2) lstD) := fin3
          exact ⟨ys, us, s2, hd3, repL_keep pk'.at kk _ _ ry, e'.keep pk'.at kk, pk3, k'.trans (fun a o n h => kk a o n h), fin4⟩
        | true =>
          rw [if_pos rfl]
          have fin4 : FinG G W (RelE G) p σ H1 Q (obind (obind (nox (fe ρ1) s2) fun y => if decide (ys.length < 100000) = true then cloop gm mt fe (ds.drop (i + 1)) (wipeL ρ vs) (ys ++ [y]) else mbad) lstD) := fin3
          unfold nox at fin4
          refine he (p.add Dd) σ2 H3 ρ1 s2 _ e3 pk3 ?_
          cases q3 : fe ρ1 s2 with
          | exc c ns xs s3 => rw [q3] at fin4; exact False.elim fin4
          | bad => rw [q3] at fin4; exact False.elim fin4
          | ok yd s3 =>
            rw [q3] at fin4
            intro v H4 k4 pk4 rv
            have hd4 : H4 Dd = some (.lst us) := k4 _ _ hpn hd3
            have kk4 : Keep (p.add Dd) H' H4 := kk.trans k4
            have fin5 : FinG G W (RelE G) p σ H1 Q (obind ((if decide (ys.length < 100000) = true then cloop gm mt fe (ds.drop (i + 1)) (wipeL ρ vs) (ys ++ [yd]) else mbad) s3) lstD) := fin4
            by_cases hl : ys.length < 100000
            · rw [if_pos (decide_eq_true hl)] at fin5
              have ho : (p.add Dd).out Dd := .inr rfl
              have ry4 := repL_keep pk'.at kk4 _ _ ry
              refine ⟨us, hd4, by rw [← repL_len ry]; exact Nat.lt_of_lt_of_le hl (by decide), ys ++ [yd], us ++ [v], s3, upd_same, repL_upd ho _ _ (repL_app ry4 ⟨v, [], rfl, rv, rfl⟩), (e'.keep pk'.at kk4).upd ho, pk4.upd ho hpn, fun a o n h => ?_, fin5⟩
              rw [upd_ne (ne_of_none h hD)]
              exact (k'.trans (fun a o n h => kk4 a o n h)) a o n h
            · rw [if_neg (by simp [hl])] at fin5
              exact False.elim fin5
  · have ei : i = ds.length := by omega
    subst ei
    rw [List.drop_length] at fin'
    have fin2 : FinG G W (RelE G) p σ H1 Q (lstD ys s') := fin'
    unfold lstD at fin2
    refine .inl ⟨hst, ?_⟩
    split at fin2
    · exact fin2 _ H' k' pk'.sub ⟨Dd, us, rfl, pk1.free hD, hd, repL_out (p := p.add Dd) (q := p) rfl rfl (fun a o _ h z => h (.inl z)) _ _ ry⟩
    · exact False.elim fin2
theorem de_lc {tg iter elt : Expr} {ifs : List Expr} {scope : Scope} {own : List (Str × Nat)} {wi : TI} {g : TG} {gm : D → Loc → Option Loc} {fi : Loc → M (List D)} {tt : TT} {mt : Loc → M Bool} (hc : X.calm = true) (hN : X.N.Nodup) (hi : DI G X W tg iter wi fi) (ok : BlkOk X.N X.env.scope scope own)
    (hg : ∀ (s : Shared) (H : Hp) (C : Addr) (cl : List (Str × Addr)) (fp : List Addr), DG G (X.blk s H scope (compEnvC scope cl C X.env) fp) (own.map (·.2)) tg g gm) (ht : ∀ (s : Shared) (H : Hp) (C : Addr) (cl : List (Str × Addr)) (fp : List Addr), PTs (X.blk s H scope (compEnvC scope cl C X.env) fp) ifs tt) (htr : RunG G (fun _ _ _ _ => False) RelB tt mt)
    (he : ∀ (s : Shared) (H : Hp) (C : Addr) (cl : List (Str × Addr)) (fp : List Addr), DE G (X.blk s H scope (compEnvC scope cl C X.env) fp) (fun _ _ _ _ => False) elt te fe) (hs : ∀ x, foldedSetIterable iter X.env x = pure x := by intro _; rfl) :
    DE G X W (.ListComp elt [⟨tg, iter, ifs, 0⟩] scope pos) (tLc wi g tt te (own.map (·.2))) (fun ρ => mbind (fi ρ) fun ds => mbind (cloop gm mt fe ds (wipeL ρ (own.map (·.2))) []) lstD) := by
  exact ⟨pe_lc hc hN hi.pi ok (fun s H C cl fp => (hg s H C cl fp).pg) ht (fun s H C cl fp => (he s H C cl fp).pe) hs, run_lc hi.run (hg X.s_0 (fun _ => none) 0 [] []).run htr (he X.s_0 (fun _ => none) 0 [] []).run⟩
end
end Tw

set_option Elab.async false
set_option linter.all false
set_option maxRecDepth 100000
set_option maxHeartbeats 4000000
set_option autoImplicit false
namespace Tw
open PySem L2 PySem.Spec PyProof.Rows
section
variable {K : PySem.W.Frag} {G : Gt} {W : WX} {X : Cx}

/-! ### built-in functions -/
def gcdD (ds : List D) : M D := match ds with
  | [.int a, .int b] => mret (.int ((Nat.gcd a.natAbs b.natAbs : Nat) : Int))
  | _ => mbad
theorem prim_gcd : PrimL G rGcd gcdD := by
  intro W p σ H s xs vs Q pk rs fin
  unfold gcdD at fin
  split at fin
  · obtain ⟨v, _, rfl, rx, w, _, rfl, ry, hz⟩ := rs
    obtain rfl := hz
    exact ⟨_, _, by rw [(show v = _ from rx), (show w = _ from ry)], fin _ H Keep.refl pk rfl⟩
  · exact fin.elim
def intD (ds : List D) : M D := match ds with
  | [.int a] => mret (.int a)
  | [.bl b] => mret (.int (if b then 1 else 0))
  | _ => mbad
theorem prim_int : PrimL G (fun xs H Q => (∃ i, xs = [.int i] ∧ Q (.int i) H) ∨ ∃ k, xs = [.bl k] ∧ Q (.int (if k then 1 else 0)) H) intD := by
  intro W p σ H s xs vs Q pk rs fin
  unfold intD at fin
  split at fin
  · obtain ⟨v, _, rfl, rx, hz⟩ := rs
    obtain rfl := hz
    exact .inl ⟨_, by rw [(show v = _ from rx)], fin _ H Keep.refl pk rfl⟩
  · obtain ⟨v, _, rfl, rx, hz⟩ := rs
    obtain rfl := hz
    exact .inr ⟨_, by rw [(show v = _ from rx)], fin _ H Keep.refl pk rfl⟩
  · exact fin.elim
def strD (ds : List D) : M D := match ds with
  | [.int a] => if decide (a.natAbs.log2 < 1920) = true then mret (.str (toString a)) else mbad
  | _ => mbad
theorem prim_str : PrimL G (fun xs H Q => ∃ i : Int, xs = [.int i] ∧ i.natAbs.log2 < 1920 ∧ Q (.str (toString i)) H) strD := by
  intro W p σ H s xs vs Q pk rs fin
  unfold strD at fin
  split at fin
  · split at fin
    · rename_i h
      obtain ⟨v, _, rfl, rx, hz⟩ := rs
      obtain rfl := hz
      exact ⟨_, by rw [(show v = _ from rx)], of_decide_eq_true h, fin _ H Keep.refl pk rfl⟩
    · exact fin.elim
  · exact fin.elim
def absD (ds : List D) : M D := match ds with
  | [.int a] => mret (.int (if a < 0 then -a else a))
  | _ => mbad
theorem prim_abs : PrimL G (fun xs H Q => ∃ i, xs = [.int i] ∧ Q (.int (if i < 0 then -i else i)) H) absD := by
  intro W p σ H s xs vs Q pk rs fin
  unfold absD at fin
  split at fin
  · obtain ⟨v, _, rfl, rx, hz⟩ := rs
    obtain rfl := hz
    exact ⟨_, by rw [(show v = _ from rx)], fin _ H Keep.refl pk rfl⟩
  · exact fin.elim
def lenD (ds : List D) : M D := match ds with
  | [.lst xs] => mret (.int (xs.length : Nat))
  | [.tup xs] => mret (.int (xs.length : Nat))
  | _ => mbad
theorem prim_len : PrimL G (fun xs H Q => ∃ p ys, xs = [.ref p] ∧ (SqL K H p ys ∨ SqT K H p ys) ∧ Q (.int ys.length) H) lenD := by
  intro W p σ H s xs vs Q pk rs fin
  unfold lenD at fin
  split at fin
  · obtain ⟨v, _, rfl, rx, hz⟩ := rs
    obtain rfl := hz
    obtain ⟨a, us, rfl, h0, h1, q1⟩ := rx
    exact ⟨a, us, rfl, .inl (SqL.of h1), by rw [← repL_len q1]; exact fin _ H Keep.refl pk rfl⟩
  · obtain ⟨v, _, rfl, rx, hz⟩ := rs
    obtain rfl := hz
    obtain ⟨a, us, rfl, h0, h1, q1⟩ := rx
    exact ⟨a, us, rfl, .inr (SqT.of h1), by rw [← repL_len q1]; exact fin _ H Keep.refl pk rfl⟩
  · exact fin.elim
/-- a built-in type's name -/
def tag : D → Option String
  | .non => some "NoneType"
  | .bl _ => some "bool"
  | .int _ => some "int"
  | .str _ => some "str"
  | .lst _ => some "list"
  | .tup _ => some "tuple"
  | _ => none
theorem tag_ok {p : Fm} {H : Hp} {s : Pen} (pk : PenOk G p H s) : ∀ {d : D} {v : V} {n : String}, Rep G p H d v → tag d = some n → TyX K H v (.type n) := by
  intro d v n r e
  cases d <;> cases e
  · rw [(show v = _ from r)]; exact .base .non
  · rw [(show v = _ from r)]; exact .base (.bl _)
  · rw [(show v = _ from r)]; exact .base (.int _)
  · rw [(show v = _ from r)]; exact .base (.str _)
  · obtain ⟨a, us, rfl, h0, h1, q1⟩ := r; exact .base (.lst h1)
  · obtain ⟨a, us, rfl, h0, h1, q1⟩ := r; exact .base (.tup h1)
def subT (a b : String) : Bool := a == b || (a == "bool" && b == "int")
def isiB (ds : List D) : M D := match ds with
  | [x, .ty T] => (match tag x with
    | some a => if decide (kitB a T = some (subT a T)) = true then mret (.bl (subT a T)) else mbad
    | none => mbad)
  | _ => mbad
theorem prim_isiB : PrimL G (rIsi K) isiB := by
  intro W p σ H s xs vs Q pk rs fin
  unfold isiB at fin
  split at fin
  · rename_i x T
    obtain ⟨v, _, rfl, rx, w, _, rfl, ry, hz⟩ := rs
    obtain rfl := hz
    obtain rfl : w = .ty T := ry
    cases h : tag x with
    | none => rw [h] at fin; exact False.elim fin
    | some a =>
      rw [h] at fin
      dsimp only at fin
      split at fin
      · rename_i hk
        exact ⟨v, .ty T, .type a, .type T, _, rfl, .ty T, tag_ok pk rx h, kit_ty (of_decide_eq_true hk), fin _ H Keep.refl pk rfl⟩
      · exact False.elim fin
  · exact False.elim fin

/-! ### a def -/
def startL (nl : Nat) (ds : List D) : Loc := ds.map some ++ List.replicate (nl - ds.length) none
def mdef (nl : Nat) (b : MS) (ds : List D) : M D := fun s => match b (startL nl ds) s with
  | .nx _ s' => .ok .non s'
  | .ret d s' => .ok d s'
  | .exc c ns xs _ s' => .exc c ns xs s'
  | _ => .bad
theorem env_start {p : Fm} {H : Hp} {N : List Str} {ds : List D} {vs : List V} (r : RepL G p H ds vs) : EnvOk G p H (L2.start N vs) (startL N.length ds) := by
  have hl := repL_len r
  refine ⟨by unfold L2.start startL; simp [hl], fun i d h => ?_⟩
  unfold startL at h
  unfold L2.start
  by_cases hi : i < ds.length
  · rw [List.getElem?_append_left (by simpa using hi), List.getElem?_map] at h
    cases q : ds[i]? with
    | none => rw [q] at h; cases h
    | some x =>
      rw [q] at h
      cases h
      obtain ⟨v, h1, h2⟩ := repL_get r q
      exact ⟨v, by rw [List.getElem?_append_left (by rw [List.length_map]; omega), List.getElem?_map, h1]; rfl, h2⟩
  · rw [List.getElem?_append_right (by simpa using hi), List.getElem?_replicate] at h
    split at h <;> cases h
variable {P : Program} {w : World} {mg : Str → Option Value} {base : Heap}
theorem ok_def {x qual : Str} {st : Stmt} {f : Addr} {fd : FuncData} {N ps : List Str} {k n : Nat} {b : MS} (F : Fun K x qual st f fd) (S : FnScope N ps (defScope st)) (hn : ps.length = n)
    (hb : ∀ (cdv : Value) (A : Around) (outer : List Env) (s : Shared) (H : Hp) (E : XK), Room k (A.deeper (envOfC qual (defScope st) s.heap.objs.size f cdv)) →
      ∃ t, DSs G (cxOf (L2.CX P w) P w K mg base N qual (defScope st) f cdv A outer s H E) (fun c d _ H' => E c d H') (defBody st) t b) :
    FnOk P w K mg base (L2.CX P w) (k + 1) f fd ps (spM G n (mdef N.length b)) := by
  refine F.okX S (fun vs H Q E h => by rw [h.1, hn]) fun cdv A outer s H vs Q E hr h => ?_
  obtain ⟨t, dt⟩ := hb cdv A outer s H E hr
  refine ⟨t, dt.ps, ?_⟩
  obtain ⟨_, p, ds, s1, rs, pk, fin⟩ := h
  refine dt.run p _ H (startL N.length ds) s1 _ (env_start rs) pk ?_
  unfold mdef at fin
  cases q : b (startL N.length ds) s1 with
  | nx ρ s' => rw [q] at fin; exact fun σ' H' k pk' _ => fin _ H' k pk' rfl
  | ret d s' => rw [q] at fin; exact fun v H' k pk' rd => fin v H' k pk' rd
  | exc c ns xs ρ s' => rw [q] at fin; exact fun dd σ' H' k pk' _ x => fin dd H' k pk' x
  | bk ρ s' => rw [q] at fin; exact False.elim fin
  | ct ρ s' => rw [q] at fin; exact False.elim fin
  | bad => rw [q] at fin; exact False.elim fin

/-! ### raise C() of an own class whose __init__ does nothing -/
def spNo : Sp := fun vs H Q _ => ∃ a, vs = [.ref a] ∧ Q .non H
theorem ok_noinit {qual : Str} {st : Stmt} {f : Addr} {fd : FuncData} {pos : Pos} (F : Fun K "__init__" qual st f fd) (S : FnScope ["self"] ["self"] (defScope st)) (hb : defBody st = [.Pass pos]) : FnOk P w K mg base (L2.CX P w) 1 f fd ["self"] spNo := by
  refine F.okX S (fun vs H Q E h => by obtain ⟨a, rfl, _⟩ := h; rfl) fun cdv A outer s H vs Q E hr h => ?_
  obtain ⟨a, rfl, q⟩ := h
  exact ⟨_, by rw [hb]; exact pss_one ps_pass, q⟩
theorem no_dict {pins : List (Addr × Obj)} {σ : L2.St} {H1 H2 : Hp} {hp hp2 h2 : Heap} {g1 g2 : Array GenState} {d1 d2 : Drawn} {t1 t2 : Nat} {os1 os2 : OsState} {a C : Addr} (I1 : Inv X pins σ H1 ⟨hp, g1, d1, t1, os1⟩)
    (ha : hp.objs.size ≤ a) (k : ∀ b o, hp.get? b = some o → hp2.get? b = some o) (un : Un (frs X.stack) [] (upd H1 a (exo a C none)) H2 hp2 h2) (hok : HOk X.prog X.w H2 h2) (ho : os2 = os1) (hb : AllBare g2) (ea : H2 a = some (exo a C none)) :
    ∃ (t0 : Addr) (Gp : Heap), Inv X pins σ (del H2 a) ⟨Gp, g2, d2, t2, os2⟩ ∧ (∀ b o, Gp.get? b = some o → h2.get? b = some o) ∧ Gp.get? a = none ∧
      h2.get? a = some ({ cls := .ref C, dict := none, data := .fields #[.ref t0, .none, .none, .none, .bool false, .none] } : Obj) := by
  obtain ⟨t0, hoe⟩ := exo_at hok ea
  have hn : H1 a = none := I1.hok.fresh ha
  obtain ⟨Gp, r1, r2⟩ := restrict h2 fun b => decide (b ≠ a)
  have gk : ∀ b, b ≠ a → Gp.get? b = h2.get? b := fun b z => r1 b (decide_eq_true z)
  have ge : Gp.get? a = none := r2 a (by simp)
  have nha : ∀ {b : Addr} {o : Obj}, hp.get? b = some o → b ≠ a := fun {b o} z => Nat.ne_of_lt (Nat.lt_of_lt_of_le (Heap.lt_size z) ha)
  have up1 : ∀ {b : Addr}, b ≠ a → H1 b = none → upd H1 a (exo a C none) b = none := fun {b} z n => (upd_ne z).trans n
  have U : Un (frs X.stack) [] H1 (del H2 a) hp Gp := by
    refine ⟨fun b o z n hf hx => (gk b (nha z)).trans (un.keep b o (k b o z) (up1 (nha z) n) hf hx), fun b o z n hf hx => ?_, fun b o z n hx => (del_ne (nha z)).trans (un.free b o (k b o z) (up1 (nha z) n) hx), fun b o z hx => ?_, fun b xs z => ?_, fun b o v z => ?_, fun b ps z => ?_⟩
    · obtain ⟨sl, e⟩ := un.slot b o (k b o z) (up1 (nha z) n) hf hx
      exact ⟨sl, (gk b (nha z)).trans e⟩
    · obtain ⟨o', e⟩ := un.there b o (k b o z) hx
      exact ⟨o', (gk b (nha z)).trans e⟩
    · exact (del_ne (ne_of_none z hn)).trans (un.tups b xs ((upd_ne (ne_of_none z hn)).trans z))
    · exact (del_ne (ne_of_none z hn)).trans (un.frzs b o v ((upd_ne (ne_of_none z hn)).trans z))
    · obtain ⟨more, e⟩ := un.tbls b ps ((upd_ne (ne_of_none z hn)).trans z)
      exact ⟨more, (del_ne (ne_of_none z hn)).trans e⟩
  have hok3 : HOk X.prog X.w (del H2 a) Gp := fun b o z => by
    have hba : b ≠ a := fun e => by
      rw [e, del_same] at z
      cases z
    rw [del_ne hba] at z
    have noa : ∀ {c : Addr}, H2 c = some (.own b) → c ≠ a := fun {c} hc => at_ne ea hc exo_own
    refine (hok b o z).stay (fun c v hc y => ?_) (fun c hc => (del_ne (noa hc)).trans hc) fun c xs hc => (del_ne (at_ne ea hc exo_tup)).trans hc
    have hca : c ≠ a := hc.elim (fun e => by rw [e]; exact hba) noa
    exact (gk c hca).trans y
  refine ⟨t0, Gp, I1.call' (ch := []) ho U hok3 hb (fun b z => absurd z (by simp)), fun b o z => ?_, ge, hoe⟩
  by_cases hba : b = a
  · rw [hba, ge] at z
    cases z
  · exact (gk b hba).symm.trans z
theorem pmk_no {x : Str} {C fI : Addr} {fd : FuncData} {p0 pos : Pos} (T : OexC X.K C) (iC : PySem.W.findIn X.K (.ref C) "__init__" = some (some (.ref fI))) (tI : PySem.W.typeIn X.K (.ref fI) = some (.type "function"))
    (F1 : FnOk X.prog X.w X.K X.mg X.base (L2.CX X.prog X.w) 1 fI fd ["self"] spNo) (hr : Room 2 X.A) (hb : Binds X.K fd ["self"] []) (hg : Gl X x) (hm : X.mg x = some (.ref C)) (hdb : (x == ("__debug__" : Str)) = false := by decide) :
    PMk X (.Call (.Name x p0) [] [] pos) (fun _ H Q => ∀ H', (∀ b o, H b = some o → H' b = some o) → Q (.ref C) none H') := by
  intro pins s σ H Q I h
  obtain ⟨nm, q, N, bs, bm, sn, sub, ab, col, dd, k0, k1, k2, k3, k5, hC, hbm⟩ := T.cls
  refine wpAny_Call_Name_kw (ld_glob I hg hm (PySem.W.callWith_K0 I.kIn T.kC ?_) hdb)
  show wpAny _ _ (call (.ref C) []) _ _ _
  obtain ⟨hp, g, dr, tk, os⟩ := s
  have hsz : hp.objs.size ≤ hp.objs.size + 1 := Nat.le_succ _
  have hn : H (hp.objs.size + 1) = none := I.hok.fresh hsz
  have kk : ∀ b o, hp.get? b = some o → ((hp.push (PySem.W.kdv_tup [])).push (PySem.HandSPX.excO C hp.objs.size)).get? b = some o := fun b o e => Heap.get?_push_of_some _ (Heap.get?_push_of_some _ e)
  have hget : ((hp.push (PySem.W.kdv_tup [])).push (PySem.HandSPX.excO C hp.objs.size)).get? (hp.objs.size + 1) = some (PySem.HandSPX.excO C hp.objs.size) := by heap_get
  have I2 : Inv X pins σ (upd H (hp.objs.size + 1) (exo (hp.objs.size + 1) C none)) ⟨(hp.push (PySem.W.kdv_tup [])).push (PySem.HandSPX.excO C hp.objs.size), g, dr, tk, os⟩ :=
    I.laid (t' := tk) (a := hp.objs.size + 1) (o := exo (hp.objs.size + 1) C none) (h' := (hp.push (PySem.W.kdv_tup [])).push (PySem.HandSPX.excO C hp.objs.size)) kk hsz (exo_ok hget)
  have hq : spNo [V.ref (hp.objs.size + 1)] (upd H (hp.objs.size + 1) (exo (hp.objs.size + 1) C none)) (fun v H2 => v = .non ∧ H2 = upd H (hp.objs.size + 1) (exo (hp.objs.size + 1) C none)) (fun _ _ _ => False) := ⟨_, rfl, rfl, rfl⟩
  have hbb := hb ⟨(hp.push (PySem.W.kdv_tup [])).push (PySem.HandSPX.excO C hp.objs.size), g, dr, tk, os⟩ [Value.ref (hp.objs.size + 1)] I2.kIn rfl
  rw [List.append_nil] at hbb
  refine wpAny_call (PySem.HandSPX.call_own F.excBase_ValueError (fun Y => PySem.HandSPX.refsVE_contains Y bm hbm) (I.kIn _ _ hC) (PySem.W.looks_findIn I.kIn iC) (fun self => PySem.W.bind_fn I.kIn self tI) (by show 0 ≤ sizeLine; exact Nat.zero_le _)
    (codeAny_mono (F1.run _ X.stack _ _ ⟨[Value.ref (hp.objs.size + 1)], []⟩ [Value.ref (hp.objs.size + 1)] [V.ref (hp.objs.size + 1)] _ (fun _ _ _ => False) (hr.make C [] []) (I2.env0.make C [] []) hbb (.cons rfl .nil) hq) fun r s' hq' => ?_))
  cases r with
  | error er => exact False.elim (by obtain ⟨_, _, _, _, _, _, _, _, _, _, _, _, z⟩ := hq'; exact z)
  | ok fl =>
    cases fl with
    | ret u =>
      obtain ⟨v, H2, os2, bare2, un2, hok2, rv, ev, eH⟩ := hq'
      subst ev eH
      obtain ⟨h2, g2, d2, t2, os'⟩ := s'
      obtain ⟨t0, Gp, J, kG, ge, hoe⟩ := no_dict (d2 := d2) (t2 := t2) I hsz kk un2 hok2 os2 bare2 upd_same
      refine ⟨rv, hp.objs.size + 1, _, _, ⟨Gp, g2, d2, t2, os'⟩, _, .ref C, none, rfl, J, kG, ge, hoe, ⟨rfl, rfl⟩, rfl, rfl, del_same, rfl, bare2, raises_own T.exC T.tyC, h _ fun b o e => ?_⟩
      rw [del_ne (ne_of_none e hn), upd_ne (ne_of_none e hn)]
      exact e
    | next => exact False.elim hq'
    | brk => exact False.elim hq'
    | cont => exact False.elim hq'
theorem PenOk.mono {p : Fm} {H H' : Hp} {s : Pen} (h : PenOk G p H s) (k : ∀ b o, H b = some o → H' b = some o) : PenOk G p H' s := by
  refine ⟨fun b kd eb => ?_, fun x c dx e => ?_, fun b hb => ?_⟩
  · rcases h.1 b kd eb with ⟨e1, e2⟩ | ⟨e1, c, h0, h1, h2⟩
    · exact .inl ⟨e1, k _ _ e2⟩
    · exact .inr ⟨e1, c, h0, k _ _ h1, k _ _ h2⟩
  · obtain ⟨vs, h1, hl, h2⟩ := h.2.1 x c dx e
    exact ⟨vs, k _ _ h1, hl, repL_keep trivial (fun a o _ h => k a o h) _ _ h2⟩
  · obtain ⟨o, h1⟩ := h.2.2 b hb
    exact ⟨o, k _ _ h1⟩
theorem ds_raise0 {c : Nat} {e : Expr} {pos : Pos} (hc : X.calm = true) (tk : Takes X W) (hp : PMk X e (fun _ H Q => ∀ H', (∀ b o, H b = some o → H' b = some o) → Q (.ref (G.cls c)) none H')) :
    DS G X W (.Raise (some e) none pos) (fun _ σ H => ∀ H', (∀ b o, H b = some o → H' b = some o) → W (.ref (G.cls c)) none σ H') (fun ρ s => .exc c [] [] ρ s) := by
  refine ⟨ps_raise hc tk hp, fun p σ H ρ s Z e pk fin H' k => ?_⟩
  have kp : Keep p H H' := fun a o _ h => k a o h
  have pk' : PenOk G p H' s := pk.mono k
  exact fin none σ H' kp pk' (e.keep pk.at kp) ⟨[], rfl, .inl ⟨rfl, rfl⟩⟩
end
end Tw

set_option Elab.async false
set_option linter.all false
set_option maxRecDepth 100000
set_option maxHeartbeats 4000000
set_option autoImplicit false
namespace Tw
open PySem L2 PySem.Spec PyProof.Rows
section
variable {K : PySem.W.Frag} {G : Gt} {W : WX} {X : Cx}
/-! ### try .. except -/
def sTry (mb : MS) (mt : Nat → Option Bool) (hm : Nat → List Str → List D → MS) : MS := fun ρ s => match mb ρ s with
  | .exc c ns xs ρ' s' => (match mt c with
    | some true => hm c ns xs ρ' s'
    | some false => .exc c ns xs ρ' s'
    | none => .bad)
  | .nx ρ' s' => .nx ρ' s'
  | .ret d s' => .ret d s'
  | .bk ρ' s' => .bk ρ' s'
  | .ct ρ' s' => .ct ρ' s'
  | .bad => .bad
abbrev W0 : WX := fun _ _ _ _ => False
/-- a block's own reading, within a try; within an except suite -/
def tOwn (X : Cx) (body : List Stmt) (W' : WX) : TS := fun Z σ H => ∀ (pn : List (Addr × Obj)) (xe : Value → Shared → Prop), Takes (X.tr pn xe) W' → PassesOwn (model X.prog X.w) X.A X.env xe →
  ∀ (pins : List (Addr × Obj)) (s : Shared), L2.Inv (X.tr pn xe) pins σ H s → wpAny (model X.prog X.w) X.A (execs body X.env) (SP (X.tr pn xe) pins Z) xe s
def tSui (X : Cx) (su : List Stmt) (a : Addr) (cls : Value) (d : Option Addr) : TS := fun Z σ H => ∀ (oe : Obj) (pn : List (Addr × Obj)), Zc cls d oe → (∃ vs, oe.data = .fields vs) →
  ∀ (pins : List (Addr × Obj)) (s : Shared), L2.Inv (X.suite a ((a, oe) :: pn)) pins σ H s → wpAny (model X.prog X.w) (X.suite a ((a, oe) :: pn)).A (execs su X.env) (SP (X.suite a ((a, oe) :: pn)) pins Z) (fun _ _ => False) s
variable {x n : Str} {T : Nat} {body suite : List Stmt} {b₀ : Stmt} {np pos pos' : Pos} {mb : MS} {mt : Nat → Option Bool} {hm : Nat → List Str → List D → MS}
theorem own_run (hb : ∀ (W' : WX) (pn : List (Addr × Obj)) (xe : Value → Shared → Prop), Takes (X.tr pn xe) W' → PassesOwn (model X.prog X.w) X.A X.env xe → ∃ t, DSs G (X.tr pn xe) W' body t mb) (W' : WX) : RunS G W' (tOwn X body W') mb := by
  intro p σ H ρ s Z e pk fin pn xe tk po pins s1 I
  obtain ⟨t, dt⟩ := hb W' pn xe tk po
  exact dt.ps.run pins s1 σ H Z I (dt.run p σ H ρ s Z e pk fin)
theorem ds_try_only (hs : X.stack = X.env :: X.outer) (hf : X.env.frame = some X.env.locals) (hc : Names X x (.ref (G.cls T))) (tk : Takes X W) (hmt : ∀ c b, mt c = some b → PySem.W.exmOne X.K (.ref (G.cls c)) (.ref (G.cls T)) = some b)
    (hb : ∀ (W' : WX) (pn : List (Addr × Obj)) (xe : Value → Shared → Prop), Takes (X.tr pn xe) W' → PassesOwn (model X.prog X.w) X.A X.env xe → ∃ t, DSs G (X.tr pn xe) W' body t mb)
    (hsu : ∀ (a : Addr) (oe : Obj) (c : Nat) (ns : List Str) (xs : List D) (dd : Option Addr) (pn : List (Addr × Obj)), mt c = some true → Zc (.ref (G.cls c)) dd oe → (∃ vs, oe.data = .fields vs) → ∃ t, DSs G (X.suite a ((a, oe) :: pn)) W0 (b₀ :: suite) t (hm c ns xs)) :
    ∃ t, DS G X W (.Try body [.ExceptHandler (some (.Name x np)) none (b₀ :: suite) pos'] [] [] pos) t (sTry mb mt fun c ns xs ρ s => match hm c ns xs ρ s with | .exc _ _ _ _ _ => .bad | o => o) := by
  refine ⟨_, ps_try_only (tb := tOwn X body) (ts := tSui X (b₀ :: suite)) hs hf hc tk (fun W' pn xe tk' po => ⟨fun pins s σ H Z I h => h pn xe tk' po pins s I⟩) (fun a oe cls d pn hz hv => ⟨fun pins s σ H Z I h => h oe pn hz hv pins s I⟩), ?_⟩
  intro p σ H ρ s Z e pk fin
  refine own_run hb _ p σ H ρ s Z e pk ?_
  unfold sTry at fin
  cases q : mb ρ s with
  | nx ρ' s' => rw [q] at fin; exact fin
  | ret d s' => rw [q] at fin; exact fin
  | bk ρ' s' => rw [q] at fin; exact fin
  | ct ρ' s' => rw [q] at fin; exact fin
  | bad => rw [q] at fin; exact fin
  | exc c ns xs ρ' s' =>
    rw [q] at fin
    dsimp only at fin
    cases q2 : mt c with
    | none => rw [q2] at fin; exact False.elim fin
    | some b =>
      rw [q2] at fin
      intro dd σ' H' k' pk' e' x'
      refine ⟨b, hmt c b q2, fun hbt => ?_, fun hbf => ?_⟩
      · subst hbt
        intro a ha oe pn hz hv pins s1 I
        obtain ⟨t, dt⟩ := hsu a oe c ns xs dd pn q2 hz hv
        refine dt.ps.run pins s1 σ' H' Z I (dt.run p σ' H' ρ' s' Z e' pk' ?_)
        dsimp only at fin
        cases q3 : hm c ns xs ρ' s' with
        | exc c2 ns2 xs2 ρ2 s2 => rw [q3] at fin; exact False.elim fin
        | nx ρ2 s2 => rw [q3] at fin; exact fun σ2 H2 k2 => fin σ2 H2 (k'.trans k2)
        | ret d s2 => rw [q3] at fin; exact fun v H2 k2 => fin v H2 (k'.trans k2)
        | bk ρ2 s2 => rw [q3] at fin; exact fun σ2 H2 k2 => fin σ2 H2 (k'.trans k2)
        | ct ρ2 s2 => rw [q3] at fin; exact fun σ2 H2 k2 => fin σ2 H2 (k'.trans k2)
        | bad => rw [q3] at fin; exact False.elim fin
      · subst hbf
        exact fin dd σ' H' k' pk' e' x'

mutual
def noErr : D → Bool
  | .err _ _ _ => false
  | .lst xs => noErrL xs
  | .tup xs => noErrL xs
  | .ins _ _ xs => noErrL xs
  | _ => true
def noErrL : List D → Bool
  | [] => true
  | d :: ds => noErr d && noErrL ds
end
/-! data without an exception is the same whatever is handled -/
mutual
theorem rep_swap {G' : Gt} {p : Fm} {H : Hp} (hc : G'.cls = G.cls) : ∀ (d : D) (v : V), noErr d = true → Rep G p H d v → Rep G' p H d v
  | .non, _, _, h => h
  | .bl _, _, _, h => h
  | .int _, _, _, h => h
  | .str _, _, _, h => h
  | .ty _, _, _, h => h
  | .cls n, v, _, h => by show v = .ref (G'.cls n); rw [hc]; exact h
  | .pen, _, _, h => h
  | .bag, _, _, h => h
  | .self, _, _, h => h
  | .lst ds, v, e, h => by
    obtain ⟨a, vs, e1, q0, q1, q2⟩ := h
    exact ⟨a, vs, e1, q0, q1, repL_swap hc ds vs e q2⟩
  | .tup ds, v, e, h => by
    obtain ⟨a, vs, e1, q0, q1, q2⟩ := h
    exact ⟨a, vs, e1, q0, q1, repL_swap hc ds vs e q2⟩
  | .ins n ns ds, v, e, h => by
    obtain ⟨a, dx, vs, e1, q0, q1, q3, q2⟩ := h
    exact ⟨a, dx, vs, e1, q0, by rw [hc]; exact q1, q3, repL_swap hc ds vs e q2⟩
  | .err _ _ _, _, e, _ => by cases e
theorem repL_swap {G' : Gt} {p : Fm} {H : Hp} (hc : G'.cls = G.cls) : ∀ (ds : List D) (vs : List V), noErrL ds = true → RepL G p H ds vs → RepL G' p H ds vs
  | [], _, _, h => h
  | d :: ds, vs, e, h => by
    obtain ⟨v, r, e1, q1, q2⟩ := h
    have e' : (noErr d && noErrL ds) = true := e
    rw [Bool.and_eq_true] at e'
    exact ⟨v, r, e1, rep_swap hc d v e'.1 q1, repL_swap hc ds r e'.2 q2⟩
end
mutual
theorem noErr_of {p : Fm} {H : Hp} (hn : G.err = none) : ∀ (d : D) (v : V), Rep G p H d v → noErr d = true
  | .non, _, _ => rfl
  | .bl _, _, _ => rfl
  | .int _, _, _ => rfl
  | .str _, _, _ => rfl
  | .ty _, _, _ => rfl
  | .cls _, _, _ => rfl
  | .pen, _, _ => rfl
  | .bag, _, _ => rfl
  | .self, _, _ => rfl
  | .lst ds, v, h => by
    obtain ⟨a, vs, e1, q0, q1, q2⟩ := h
    exact noErrL_of hn ds vs q2
  | .tup ds, v, h => by
    obtain ⟨a, vs, e1, q0, q1, q2⟩ := h
    exact noErrL_of hn ds vs q2
  | .ins n ns ds, v, h => by
    obtain ⟨a, dx, vs, e1, q0, q1, q3, q2⟩ := h
    exact noErrL_of hn ds vs q2
  | .err _ _ _, _, h => by
    obtain ⟨a, dd, vs, _, q, _⟩ := h
    rw [hn] at q
    cases q
theorem noErrL_of {p : Fm} {H : Hp} (hn : G.err = none) : ∀ (ds : List D) (vs : List V), RepL G p H ds vs → noErrL ds = true
  | [], _, _ => rfl
  | d :: ds, vs, h => by
    obtain ⟨v, r, e1, q1, q2⟩ := h
    show (noErr d && noErrL ds) = true
    rw [noErr_of hn d v q1, noErrL_of hn ds r q2]
    all_goals rfl
end
def cleanD (o : Option D) : Option D := match o with
  | some d => if noErr d = true then some d else none
  | none => none
def clean (ρ : Loc) : Loc := ρ.map cleanD
theorem EnvOk.clean {G' : Gt} {p : Fm} {H : Hp} {σ : L2.St} {ρ : Loc} (hc : G.cls = G'.cls) (e : EnvOk G' p H σ ρ) : EnvOk G p H σ (clean ρ) := by
  refine ⟨by unfold Tw.clean; rw [List.length_map]; exact e.1, fun i d h => ?_⟩
  unfold Tw.clean at h
  rw [List.getElem?_map] at h
  cases q : ρ[i]? with
  | none => rw [q] at h; cases h
  | some o =>
    rw [q] at h
    cases o with
    | none => cases h
    | some x =>
      have h : some (if noErr x = true then some x else none) = some (some d) := h
      by_cases hx : noErr x = true
      · rw [if_pos hx] at h
        cases h
        obtain ⟨v, h1, h2⟩ := e.2 i d q
        exact ⟨v, h1, rep_swap hc d v hx h2⟩
      · rw [if_neg hx] at h; cases h
theorem EnvOk.err {p : Fm} {H : Hp} {σ : L2.St} {ρ : Loc} {G' : Gt} (hn : G.err = none) (hc : G'.cls = G.cls) (e : EnvOk G p H σ ρ) : EnvOk G' p H σ ρ :=
  ⟨e.1, fun i d h => let ⟨v, h1, h2⟩ := e.2 i d h; ⟨v, h1, rep_swap hc d v (noErr_of hn d v h2) h2⟩⟩
theorem EnvOk.unset {p : Fm} {H : Hp} {σ : L2.St} {ρ : Loc} {i : Nat} (e : EnvOk G p H σ ρ) : EnvOk G p H (σ.set i none) (ρ.set i none) := by
  refine ⟨by simp [e.1], fun j x hx => ?_⟩
  rw [List.getElem?_set] at hx
  by_cases hij : i = j
  · subst hij
    simp only [if_true] at hx
    split at hx <;> cases hx
  · rw [if_neg hij] at hx
    obtain ⟨u, h1, h2⟩ := e.2 j x hx
    exact ⟨u, by rw [List.getElem?_set, if_neg hij]; exact h1, h2⟩
/-- behind the suite of «except X as n» -/
def backOf (i : Nat) (o : OutS) : OutS := match o with
  | .nx ρ s => .nx (clean (ρ.set i none)) s
  | .ret d s => if noErr d = true then .ret d s else .bad
  | .bk ρ s => .bk (clean (ρ.set i none)) s
  | .ct ρ s => .ct (clean (ρ.set i none)) s
  | _ => .bad
abbrev Gt.at (G : Gt) (a : Addr) (c : Nat) (dd : Option Addr) : Gt := ⟨G.cls, some (a, c, dd)⟩
theorem ds_try_as {i : Nat} {nf : Nat → Bool} {hs1 : Nat → MS} (hn : G.err = none) (hs : X.stack = X.env :: X.outer) (hf : X.env.frame = some X.env.locals) (hN : X.N.Nodup) (hi : X.N[i]? = some n) (hln : X.env.kindOf n = some .local) (hc : Names X x (.ref (G.cls T))) (tk : Takes X W) (hmt : ∀ c b, mt c = some b → PySem.W.exmOne X.K (.ref (G.cls c)) (.ref (G.cls T)) = some b)
    (hb : ∀ (W' : WX) (pn : List (Addr × Obj)) (xe : Value → Shared → Prop), Takes (X.tr pn xe) W' → PassesOwn (model X.prog X.w) X.A X.env xe → ∃ t, DSs G (X.tr pn xe) W' body t mb)
    (hsu : ∀ (a : Addr) (oe : Obj) (c : Nat) (dd : Option Addr) (pn : List (Addr × Obj)), mt c = some true → (nf c = true → dd = none) → Zc (.ref (G.cls c)) dd oe → (∃ vs, oe.data = .fields vs) → ∃ t, DSs (G.at a c dd) (X.suite a ((a, oe) :: pn)) W0 (b₀ :: suite) t (hs1 c)) :
    ∃ t, DS G X W (.Try body [.ExceptHandler (some (.Name x np)) (some n) (b₀ :: suite) pos'] [] [] pos) t (sTry mb mt fun c ns xs ρ s => if (nf c && !ns.isEmpty) = true then .bad else backOf i (hs1 c (ρ.set i (some (.err c ns xs))) s)) := by
  refine ⟨_, ps_try_as (tb := tOwn X body) (ts := tSui X (b₀ :: suite)) hs hf hN hi hln hc tk (fun W' pn xe tk' po => ⟨fun pins s σ H Z I h => h pn xe tk' po pins s I⟩) (fun a oe cls d pn hz hv => ⟨fun pins s σ H Z I h => h oe pn hz hv pins s I⟩), ?_⟩
  intro p σ H ρ s Z e pk fin
  refine own_run hb _ p σ H ρ s Z e pk ?_
  unfold sTry at fin
  cases q : mb ρ s with
  | nx ρ' s' => rw [q] at fin; exact fin
  | ret d s' => rw [q] at fin; exact fin
  | bk ρ' s' => rw [q] at fin; exact fin
  | ct ρ' s' => rw [q] at fin; exact fin
  | bad => rw [q] at fin; exact fin
  | exc c ns xs ρ' s' =>
    rw [q] at fin
    dsimp only at fin
    cases q2 : mt c with
    | none => rw [q2] at fin; exact False.elim fin
    | some b =>
      rw [q2] at fin
      intro dd σ' H' k' pk' e' x'
      refine ⟨b, hmt c b q2, fun hbt => ?_, fun hbf => ?_⟩
      · subst hbt
        intro a ha oe pn hz hv pins s1 I
        obtain ⟨us, rus, xk⟩ := x'
        by_cases hnf : (nf c && !ns.isEmpty) = true
        · dsimp only at fin
          rw [if_pos hnf] at fin
          exact False.elim fin
        dsimp only at fin
        rw [if_neg hnf] at fin
        have hdd : nf c = true → dd = none := fun z => by
          rcases xk with z2 | ⟨b, gs, e0, _⟩
          · exact z2.2
          · refine absurd ?_ hnf
            rw [z]
            cases ns with
            | nil => exact absurd rfl e0
            | cons _ _ => rfl
        obtain ⟨t, dt⟩ := hsu a oe c dd pn q2 hdd hz hv
        have rx : Rep (G.at a c dd) p H' (.err c ns xs) (.ref a) := ⟨a, dd, us, rfl, rfl, repL_swap (G := G) (G' := G.at a c dd) rfl xs us (noErrL_of hn xs us rus) rus, xk⟩
        refine dt.ps.run pins s1 _ H' _ I (dt.run p _ H' (ρ'.set i (some (.err c ns xs))) s' _ ((EnvOk.err (G' := G.at a c dd) hn rfl e').set rx) pk' ?_)
        cases q3 : hs1 c (ρ'.set i (some (.err c ns xs))) s' with
        | exc c2 ns2 xs2 ρ2 s2 => rw [q3] at fin; exact False.elim fin
        | nx ρ2 s2 => rw [q3] at fin; exact fun σ2 H2 k2 pk2 e2 => fin _ H2 (k'.trans k2) pk2 (EnvOk.clean (G := G) (G' := G.at a c dd) rfl e2.unset)
        | bk ρ2 s2 => rw [q3] at fin; exact fun σ2 H2 k2 pk2 e2 => fin _ H2 (k'.trans k2) pk2 (EnvOk.clean (G := G) (G' := G.at a c dd) rfl e2.unset)
        | ct ρ2 s2 => rw [q3] at fin; exact fun σ2 H2 k2 pk2 e2 => fin _ H2 (k'.trans k2) pk2 (EnvOk.clean (G := G) (G' := G.at a c dd) rfl e2.unset)
        | ret d s2 =>
          rw [q3] at fin
          have fin : FinS G W p H Z (if noErr d = true then .ret d s2 else .bad) := fin
          by_cases hd : noErr d = true
          · rw [if_pos hd] at fin
            exact fun v H2 k2 pk2 rd => fin v H2 (k'.trans k2) pk2 (rep_swap (G := G.at a c dd) (G' := G) rfl d v hd rd)
          · rw [if_neg hd] at fin; exact False.elim fin
        | bad => rw [q3] at fin; exact False.elim fin
      · subst hbf
        exact fin dd σ' H' k' pk' e' x'
/-- isinstance(n, C), n the exception that is handled, without fields -/
def isiE (ans : Nat → Option Bool) (d : D) : M D := match d with
  | .err c _ _ => (match ans c with
    | some b => mret (.bl b)
    | none => mbad)
  | _ => mbad
theorem de_isE {a : Addr} {oe : Obj} {pn : List (Addr × Obj)} {c T' : Nat} {ans : Nat → Option Bool} {p0 : Pos} {xn cn : Str} {p1 p2 : Pos} {i : Nat} (C : ExcC X.K (G.cls c)) (hz : Zc (.ref (G.cls c)) none oe) (hf : ∃ vs, oe.data = .fields vs)
    (ha : ∀ b, ans c = some b → PySem.W.kitOne X.K (.ref (G.cls c)) (.ref (G.cls T')) = some b)
    (hg : Gl (X.suite a ((a, oe) :: pn)) "isinstance") (hmI : X.mg "isinstance" = none) (hgc : Gl (X.suite a ((a, oe) :: pn)) cn) (hmc : X.mg cn = some (.ref (G.cls T')))
    (hx : DE (G.at a c none) (X.suite a ((a, oe) :: pn)) W0 (.Name xn p1) (tVar i) (mvar i)) (hdc : (cn == ("__debug__" : Str)) = false := by decide) :
    DE (G.at a c none) (X.suite a ((a, oe) :: pn)) W0 (.Call (.Name "isinstance" p0) [.Name xn p1, .Name cn p2] [] pos) (tCB (rIsE X.K (G.cls c) a) (tCons (tVar i) (tCons (tC (.ref (G.cls T'))) tNil))) (fun ρ => mbind (mvar i ρ) (isiE ans)) := by
  refine ⟨pe_callB (call_isE C hz hf) hg hmI (by decide +kernel) (pa_cons hx.pe (pa_cons (pe_glob hgc hmc rfl hdc) pa_nil)), fun p σ H ρ s Q e pk fin => ?_⟩
  refine hx.run p σ H ρ s _ e pk (fin.step fun d s1 v H1 k1 pk1 rd fin1 => ?_)
  unfold isiE at fin1
  cases d <;> first
    | exact False.elim fin1
    | skip
  rename_i c2 ns xs
  obtain ⟨a2, dd, us, rfl, q0, _⟩ := rd
  have q0' : (a, c, (none : Option Addr)) = (a2, c2, dd) := Option.some.inj q0
  obtain ⟨rfl, q1⟩ := Prod.mk.inj q0'
  obtain ⟨rfl, rfl⟩ := Prod.mk.inj q1
  dsimp only at fin1
  cases q : ans c with
  | none => rw [q] at fin1; exact False.elim fin1
  | some b =>
    rw [q] at fin1
    exact ⟨.ref (G.cls T'), .ref (G.cls T'), b, rfl, fun u r => r, ha b q, fin1 _ H1 Keep.refl pk1 rfl⟩
end
end Tw

set_option Elab.async false
set_option linter.all false
set_option maxRecDepth 100000
set_option maxHeartbeats 4000000
set_option autoImplicit false
namespace Tw
open PySem L2 PySem.Spec PyProof.Rows
section
variable {K : PySem.W.Frag} {G : Gt} {W : WX} {X : Cx}
/-! ### the pen's items -/
inductive Fl where
  | cells | next | digits | rest | seed | turn
def Fl.key : Fl → Str
  | .cells => "cells"
  | .next => "next"
  | .digits => "digits"
  | .rest => "rest"
  | .seed => "seed"
  | .turn => "turn"
def Pen.get (s : Pen) : Fl → D
  | .cells => .lst (s.cells.map D.int)
  | .next => .int s.next
  | .digits => .int s.digits
  | .rest => .int s.rest
  | .seed => .int s.seed
  | .turn => .int s.turn
def Pen.put (s : Pen) (f : Fl) (d : D) : Option Pen := match f, d with
  | .next, .int i => if decide (0 ≤ i) = true then some { s with next := i.toNat } else none
  | .digits, .int i => some { s with digits := i }
  | .rest, .int i => some { s with rest := i }
  | .seed, .int i => some { s with seed := i }
  | .turn, .int i => some { s with turn := i }
  | _, _ => none
theorem kne {a b : Str} (h : ¬ a = b) : ¬ (Sum.inr a : Key) = Sum.inr b := fun z => h (Sum.inr.inj z)
theorem val_pen (c : Addr) (s : Pen) (f : Fl) : valV (penKV c s) (Sum.inr f.key : Key) = some (match f with | .cells => .ref c | .next => .int s.next | .digits => .int s.digits | .rest => .int s.rest | .seed => .int s.seed | .turn => .int s.turn) := by
  cases f <;> rfl
theorem put_pen (c : Addr) (s s' : Pen) (f : Fl) (i : Int) (h : s.put f (.int i) = some s') : putK (penKV c s) (Sum.inr f.key : Key) (.int i) = penKV c s' := by
  cases f
  · cases h
  · have h : (if decide (0 ≤ i) = true then some { s with next := i.toNat } else none) = some s' := h
    by_cases hi : 0 ≤ i
    · rw [if_pos (decide_eq_true hi)] at h
      cases h
      have e : i = ((i.toNat : Nat) : Int) := (Int.toNat_of_nonneg hi).symm
      show putK (penKV c s) (Sum.inr "next" : Key) (.int i) = ([(Sum.inr "cells", .ref c), (Sum.inr "next", .int ((i.toNat : Nat) : Int)), (Sum.inr "digits", .int s.digits), (Sum.inr "rest", .int s.rest), (Sum.inr "seed", .int s.seed), (Sum.inr "turn", .int s.turn)] : List (Key × V))
      rw [← e]
      rfl
    · rw [if_neg (by simp [hi])] at h; cases h
  all_goals (cases h; rfl)

theorem rep_ints {p : Fm} {H : Hp} : ∀ ns : List Int, RepL G p H (ns.map D.int) (ns.map V.int)
  | [] => rfl
  | n :: ns => ⟨.int n, ns.map V.int, rfl, rfl, rep_ints ns⟩
/-- pen['f'] -/
def penGet (fe : Loc → M D) (f : Fl) : Loc → M D := fun ρ => mbind (fe ρ) fun d => fun s => match d with
  | .pen => .ok (s.get f) s
  | _ => .bad
variable {o : Expr} {to : TE} {fo fv : Loc → M D} {pos pos' : Pos} {j : Nat} {pk : Pos} {value : Expr} {tv : TE}
theorem de_penGet (f : Fl) (hu : X.A.units + 1 < cLine) (ho : DE G X W o to fo) {z : Str} (hz : z = f.key) : DE G X W (.Subscript o (.Constant (.str z) j pk) pos) (tDGet to (tC (.str z))) (penGet fo f) := by
  subst hz
  refine ⟨pe_dget hu ho.pe pe_str (fun _ _ => rfl), fun p σ H ρ s Q e pk fin => ?_⟩
  refine ho.run p σ H ρ s _ e pk (fin.step fun d s1 v H1 k1 pk1 rd fin1 => ?_)
  cases d <;> first
    | exact False.elim fin1
    | skip
  obtain ⟨a, ea, rfl⟩ := rd
  obtain ⟨-, c, hc, h1, h2⟩ := (pk1.1 a false ea).resolve_left fun z => nomatch z.1
  have hg := DGet.k (k := (Sum.inr f.key : Key)) h1
  rw [val_pen] at hg
  refine ⟨a, _, rfl, hg, fin1 _ H1 Keep.refl pk1 ?_⟩
  cases f <;> first
    | rfl
    | exact ⟨c, _, rfl, hc, h2, rep_ints _⟩
/-- pen['f'] = v -/
def penPut (fo fv : Loc → M D) (f : Fl) : MS := fun ρ s => sof (fv ρ s) ρ fun d s1 => sof (fo ρ s1) ρ fun x s2 => match x with
  | .pen => (match s2.put f d with
    | some s3 => .nx ρ s3
    | none => .bad)
  | _ => .bad
theorem ds_penPut (f : Fl) (hu : X.A.units + 1 < cLine) (ho : DE G X W o to fo) (hv : DE G X W value tv fv) {z : Str} (hz : z = f.key) (hs : swapsWith value (some (.Subscript o (.Constant (.str z) j pk) pos')) pos.line X.env = pure false := by rfl) :
    DS G X W (.Assign [.Subscript o (.Constant (.str z) j pk) pos'] value pos) (sDPut to (tC (.str z)) tv) (penPut fo fv f) := by
  subst hz
  refine ⟨ps_dput hu ho.pe pe_str hv.pe hs, fun p σ H ρ s Z e pk fin => ?_⟩
  refine hv.run p σ H ρ s _ e pk (FinS.step fin (fun H1 s1 k1 pk1 => e.keep pk.at k1) fun d s1 v H1 k1 pk1 rd fin1 => ?_)
  have e1 := e.keep pk.at k1
  refine ho.run p σ H1 ρ s1 _ e1 pk1 (FinS.step fin1 (fun H2 s2 k2 pk2 => e1.keep pk1.at k2) fun x s2 vx H2 k2 pk2 rx fin2 => ?_)
  cases x <;> first
    | exact False.elim fin2
    | skip
  obtain ⟨a, ea, rfl⟩ := rx
  dsimp only at fin2
  obtain ⟨-, c, hc, h1, h2⟩ := (pk2.1 a false ea).resolve_left fun z => nomatch z.1
  cases q : s2.put f d with
  | none => rw [q] at fin2; exact False.elim fin2
  | some s3 =>
    rw [q] at fin2
    have hi : ∃ i, d = .int i := by
      cases f <;> cases d <;> first
        | exact ⟨_, rfl⟩
        | cases q
    obtain ⟨i, rfl⟩ := hi
    obtain rfl : v = .int i := rd
    refine ⟨a, _, rfl, DPut.k (k := (Sum.inr f.key : Key)) h1 (by show 6 < sizeLine; decide), ?_⟩
    have hcell : s3.cells = s2.cells ∧ s3.obj = s2.obj ∧ s3.ocls = s2.ocls := by
      cases f <;> first
        | (cases q; exact ⟨rfl, rfl, rfl⟩)
        | (cases q; done)
        | (have q : (if decide (0 ≤ i) = true then some { s2 with next := i.toNat } else none) = some s3 := q
           split at q
           · cases q; exact ⟨rfl, rfl, rfl⟩
           · cases q)
    rw [put_pen c s2 s3 f i q]
    have hca : c ≠ a := ne_of h2 h1 (fun z => nomatch z)
    obtain ⟨hc1, hc3, hc4⟩ := hcell
    have ha : p.out a := p.okp a false ea
    have kk : Keep p H2 (upd H2 a (.dK (penKV c s3))) := fun b u n eb => by
      rw [upd_ne (fun z => n (.inl ⟨false, by rw [z]; exact ea⟩))]; exact eb
    have pk3 : PenOk G p (upd H2 a (.dK (penKV c s3))) s3 := by
      refine ⟨fun b kd eb => ?_, fun x c' dx e => ?_, fun b hb => ?_⟩
      · have eab : (a, false) = (b, kd) := Option.some.inj (ea.symm.trans eb)
        cases eab
        exact .inr ⟨rfl, c, hc, upd_same, by rw [upd_ne hca, hc1]; exact h2⟩
      · obtain ⟨vs, h3, hl, h4⟩ := pk2.2.1 x c' dx e
        rw [hc3, hc4]
        exact ⟨vs, by rw [upd_ne (p.neo a false _ _ _ ea e)]; exact h3, hl, repL_upd ha _ _ h4⟩
      · by_cases z : b = a
        · subst z; exact ⟨_, upd_same⟩
        · rw [upd_ne z]; exact pk2.2.2 b hb
    exact fin2 σ _ kk pk3 ((e1.keep pk1.at k2).keep pk2.at kk)
end
end Tw

set_option Elab.async false
set_option linter.all false
set_option maxRecDepth 100000
set_option maxHeartbeats 4000000
set_option autoImplicit false
namespace Tw
open PySem L2 PySem.Spec PyProof.Rows
section
variable {K : PySem.W.Frag} {G : Gt} {W : WX} {X : Cx}
/-- // and % by any divisor but 0 -/
def CDivX (_ j : Int) : Prop := j ≠ 0 ∧ j.natAbs.log2 < 9000
theorem op_fdivX : OpR X (binaryOp .FloorDiv) (rI CDivX fun i j => .int (i.fdiv j)) := opI fun i j _ _ _ _ _ hc q => floordiv_int hc.1 q (.inl (PyProof.noPylong_of_log2 hc.2))
def fdvI : D → D → M D := int2c (fun _ j => decide (j ≠ 0 ∧ j.natAbs.log2 < 9000)) fun i j => .int (i.fdiv j)
def fmdI : D → D → M D := int2c (fun _ j => decide (j ≠ 0)) fun i j => .int (i.fmod j)
theorem prim_fdv : Prim2 G (rI CDivX fun i j => .int (i.fdiv j)) fdvI := prim_I (fun i j h => of_decide_eq_true (p := j ≠ 0 ∧ j.natAbs.log2 < 9000) h) fun _ _ _ _ => rfl
theorem prim_fmd : Prim2 G (rI (fun _ j => j ≠ 0) fun i j => .int (i.fmod j)) fmdI := prim_I (fun i j h => of_decide_eq_true (p := j ≠ 0) h) fun _ _ _ _ => rfl
theorem cr_isi (hK : X.K = K) : CallR X (.builtin "isinstance") (rIsi K) := by subst hK; exact call_isi
theorem cr_len (hK : X.K = K) : CallR X (.builtin "len") (fun xs H Q => ∃ p ys, xs = [.ref p] ∧ (SqL K H p ys ∨ SqT K H p ys) ∧ Q (.int ys.length) H) := by subst hK; exact call_len_seq
variable {a b c e : Expr} {ta te : TE} {fa fe : Loc → M D} {pos : Pos} {tA : TA} {fA : Loc → M (List D)}
theorem ds_setLc {i : Nat} {y : Str} {py spos : Pos} {tg iter elt : Expr} {ifs : List Expr} {scope : Scope} {own : List (Str × Nat)} {wi : TI} {g : TG} {gm : D → Loc → Option Loc} {fi : Loc → M (List D)} {tt : TT} {mt : Loc → M Bool} (hc : X.calm = true) (hN : X.N.Nodup) (hy : X.N[i]? = some y) (hyl : X.env.scope.names.lookup y = some .local)
    (hsw : swapsWith (.ListComp elt [⟨tg, iter, ifs, 0⟩] scope pos) (some (.Name y py)) spos.line X.env = pure true) (hi : DI G X W tg iter wi fi) (ok : BlkOk X.N X.env.scope scope own)
    (hg : ∀ (s : Shared) (H : Hp) (C : Addr) (cl : List (Str × Addr)) (fp : List Addr), DG G (X.blk s H scope (compEnvC scope cl C X.env) fp) (own.map (·.2)) tg g gm) (ht : ∀ (s : Shared) (H : Hp) (C : Addr) (cl : List (Str × Addr)) (fp : List Addr), PTs (X.blk s H scope (compEnvC scope cl C X.env) fp) ifs tt) (htr : RunG G W0 RelB tt mt)
    (he : ∀ (s : Shared) (H : Hp) (C : Addr) (cl : List (Str × Addr)) (fp : List Addr), DE G (X.blk s H scope (compEnvC scope cl C X.env) fp) W0 elt te fe) (hs : ∀ x, foldedSetIterable iter X.env x = pure x := by intro _; rfl) :
    DS G X W (.Assign [.Name y py] (.ListComp elt [⟨tg, iter, ifs, 0⟩] scope pos) spos) (tAsg (tLc wi g tt te (own.map (·.2))) (gName i)) (sasg (fun ρ => mbind (fi ρ) fun ds => mbind (cloop gm mt fe ds (wipeL ρ (own.map (·.2))) []) lstD) (gnm i)) :=
  ⟨ps_setLc hc hN hy hyl hsw hi.pi ok (fun s H C cl fp => (hg s H C cl fp).pg) ht (fun s H C cl fp => (he s H C cl fp).pe) hs, run_asg (run_lc hi.run (hg X.s_0 (fun _ => none) 0 [] []).run htr (he X.s_0 (fun _ => none) 0 [] []).run) run_gname⟩
theorem run_yes : RunG G W RelB tYes (fun _ => mret true) := fun p σ H ρ s Q e pk fin => fin _ H Keep.refl pk rfl
theorem ds_par {i j : Nat} {x y : Str} {px py pt : Pos} {kt k2 pt2} (hc : X.calm = true) (hN : X.N.Nodup) (hi : X.N[i]? = some x) (hj : X.N[j]? = some y) (hij : i ≠ j)
    (hx : X.env.scope.names.lookup x = some .local) (hy : X.env.scope.names.lookup y = some .local) (ha : DA G X W [a, b] tA fA)
    (hw : swappedStores [.Tuple [.Name x px, .Name y py] kt pt] (.Tuple [a, b] k2 pt2) X.env = pure (some [x, y]) := by rfl)
    (hs : swapsWithSole [.Tuple [.Name x px, .Name y py] kt pt] (.Tuple [a, b] k2 pt2) pos.line X.env = pure false := by rfl) :
    DS G X W (.Assign [.Tuple [.Name x px, .Name y py] kt pt] (.Tuple [a, b] k2 pt2) pos) (tPar i j tA) (spar i j fA) := ⟨ps_par hc hN hi hj hij hx hy ha.pa hw hs, run_par ha.run⟩
/-- a def of the text, with its name in the module -/
structure Dfn (K : PySem.W.Frag) (mg : Str → Option Value) (x qual : Str) (st : Stmt) (ps : List Str) (f : Addr) (fd : FuncData) : Prop where
  fn : Fun K x qual st f fd
  m : mg x = some (.ref f)
  b : L2.Binds K fd ps []
/-- an own error whose __init__ does nothing -/
structure Err0 (K : PySem.W.Frag) (mg : Str → Option Value) (x : Str) (C fI : Addr) (st : Stmt) (qual : Str) (fd : FuncData) : Prop where
  ox : OexC K C
  fi : PySem.W.findIn K (.ref C) "__init__" = some (some (.ref fI))
  ti : PySem.W.typeIn K (.ref fI) = some (.type "function")
  fn : Fun K "__init__" qual st fI fd
  bd : L2.Binds K fd ["self"] []
  m : mg x = some (.ref C)

/-! ### the pen is made -/
variable {P : Program} {w : World} {mg : Str → Option Value} {base : Heap}
def pen0 (ns : List Int) (seed : Int) : Pen := ⟨ns, 0, 0, 0, seed, 0, [], 0⟩
/-- a list of whole numbers comes in, a pen goes out -/
def spPen (K : PySem.W.Frag) : Sp := fun vs H Q _ => ∃ (a : Addr) (ns : List Int), vs = [.ref a] ∧ SqL K H a (ns.map V.int) ∧
  ∀ (seed : Int) (H' : Hp) (p c : Addr), Same H H' → H p = none → H c = none → H' p = some (.dK (penKV c (pen0 ns seed))) → H' c = some (.lst (ns.map V.int)) → Q (.ref p) H'
end
end Tw

set_option Elab.async false
set_option linter.all false
set_option maxRecDepth 100000
set_option maxHeartbeats 4000000
set_option autoImplicit false
namespace Tw
open PySem L2 PySem.Spec PyProof.Rows
/-! ### mirrors by name -/
def kC (d : D) : Loc → M D := fun _ => mret d
def kOp (f : D → D → M D) (fa fb : Loc → M D) : Loc → M D := fun ρ => mbind (fa ρ) fun x => mbind (fb ρ) fun y => f x y
def kUn (f : D → M D) (fa : Loc → M D) : Loc → M D := fun ρ => mbind (fa ρ) f
def kB (fa : Loc → M D) : Loc → M Bool := fun ρ => mbind (fa ρ) asB
def kAnd (f1 f2 : Loc → M Bool) : Loc → M Bool := fun ρ => mbind (f1 ρ) fun c => if c = true then f2 ρ else mret false
def kOr (f1 f2 : Loc → M Bool) : Loc → M Bool := fun ρ => mbind (f1 ρ) fun c => if c = true then mret true else f2 ρ
def kNot (f1 : Loc → M Bool) : Loc → M Bool := fun ρ => mbind (f1 ρ) fun c => mret (!c)
def kAndV (fa fb : Loc → M D) : Loc → M D := fun ρ => mbind (mbind (fa ρ) asB) fun c => if c = true then fb ρ else mret (.bl false)
def kOrV (fa fb : Loc → M D) : Loc → M D := fun ρ => mbind (mbind (fa ρ) asB) fun c => if c = true then mret (.bl true) else fb ρ
def kNotV (fa : Loc → M D) : Loc → M D := fun ρ => mbind (mbind (fa ρ) asB) fun c => mret (.bl (!c))
def kIf (f1 : Loc → M Bool) (fa fb : Loc → M D) : Loc → M D := fun ρ => mbind (f1 ρ) fun c => if c = true then fa ρ else fb ρ
def kCh (f f' : D → D → M D) (fa fb fc : Loc → M D) : Loc → M D := fun ρ => mbind (fa ρ) fun x => mbind (fb ρ) fun y => mbind (mbind (f x y) asB) fun k => if k = true then mbind (fc ρ) fun z => f' y z else mret (.bl false)
def aNil : Loc → M (List D) := fun _ => mret []
def aCons (fe : Loc → M D) (fA : Loc → M (List D)) : Loc → M (List D) := fun ρ => mbind (fe ρ) fun x => mbind (fA ρ) fun xs => mret (x :: xs)
def kCall (m : List D → M D) (fA : Loc → M (List D)) : Loc → M D := fun ρ => mbind (fA ρ) m
def kLc (fi : Loc → M (List D)) (gm : D → Loc → Option Loc) (mt : Loc → M Bool) (fe : Loc → M D) (vs : List Nat) : Loc → M D := fun ρ => mbind (fi ρ) fun ds => mbind (cloop gm mt fe ds (wipeL ρ vs) []) lstD
def iL (fe : Loc → M D) : Loc → M (List D) := fun ρ => mbind (fe ρ) asL
def iT (fe : Loc → M D) : Loc → M (List D) := fun ρ => mbind (fe ρ) asT
def iR1 (fA : Loc → M (List D)) : Loc → M (List D) := fun ρ => mbind (fA ρ) rng1
def iR2 (fA : Loc → M (List D)) : Loc → M (List D) := fun ρ => mbind (fA ρ) rng2
def zNx : MS := fun ρ s => .nx ρ s
def zBk : MS := fun ρ s => .bk ρ s
def zCt : MS := fun ρ s => .ct ρ s
def zEx (fe : Loc → M D) : MS := fun ρ s => sof (fe ρ s) ρ fun _ s' => .nx ρ s'
def zRet (fe : Loc → M D) : MS := fun ρ s => sof (fe ρ s) ρ fun d s' => .ret d s'
def zRetN : MS := fun _ s => .ret .non s
def zIf (f1 : Loc → M Bool) (m m' : MS) : MS := fun ρ s => sof (f1 ρ s) ρ fun k s' => if k = true then m ρ s' else m' ρ s'
def zRaise (c : Nat) : MS := fun ρ s => .exc c [] [] ρ s
def oT (mt : Nat → Option Bool) (mb : MS) (hm : MS) : MS := sTry mb mt fun c ns xs ρ s => match hm ρ s with | .exc _ _ _ _ _ => .bad | o => o
def oA (i : Nat) (mt : Nat → Option Bool) (nf : Nat → Bool) (mb : MS) (hm : Nat → MS) : MS := sTry mb mt fun c ns xs ρ s => if (nf c && !ns.isEmpty) = true then .bad else backOf i (hm c (ρ.set i (some (.err c ns xs))) s)
section
variable {K : PySem.W.Frag} {G : Gt} {W : WX} {X : Cx}
variable {a b c e : Expr} {es rest : List Expr} {ta tb tc te : TE} {fa fb fc fe : Loc → M D} {r r' : R2} {f f' : D → D → M D} {pos : Pos} {tA : TA} {fA : Loc → M (List D)} {A1 A2 : TT} {f1 f2 : Loc → M Bool} {t u : TS} {m m' mb : MS} {sts : List Stmt} {st : Stmt}
theorem x_int {i : Int} {j : Nat} : DE G X W (.Constant (.int i) j pos) (tC (.int i)) (kC (.int i)) := de_int
theorem x_bl {i : Bool} {j : Nat} : DE G X W (.Constant (.bool i) j pos) (tC (.bl i)) (kC (.bl i)) := de_bl
theorem x_non {j : Nat} : DE G X W (.Constant .none j pos) (tC .non) (kC .non) := de_non
theorem x_str {x : Str} {j : Nat} : DE G X W (.Constant (.str x) j pos) (tC (.str x)) (kC (.str x)) := de_str
theorem x_ty {x : Str} {n : String} (hm : X.mg x = none) (hv : bootBuiltins x = some (.type n)) (hg : Gl X x := by rfl) (hn : x ≠ "__name__" := by decide) (hd : (x == ("__debug__" : Str)) = false := by decide) : DE G X W (.Name x pos) (tC (.ty n)) (kC (.ty n)) := de_ty hg hm hv hn hd
theorem x_cls {x : Str} {n : Nat} (hm : X.mg x = some (.ref (G.cls n))) (hg : Gl X x := by rfl) (hd : (x == ("__debug__" : Str)) = false := by decide) : DE G X W (.Name x pos) (tC (.ref (G.cls n))) (kC (.cls n)) := de_cls hg hm hd
theorem x_op {op : Operator} (ho : OpR X (binaryOp op) r) (hp : Prim2 G r f) (ha : DE G X W a ta fa) (hb : DE G X W b tb fb) : DE G X W (.BinOp a op b pos) (tOp r ta tb) (kOp f fa fb) := de_op ho hp ha hb
theorem x_un {op : UnaryOp} {r : V → Hp → VK → Prop} {f : D → M D} (ho : UnR X (unaryOp op) r) (hp : Prim1 G r f) (ha : DE G X W a ta fa) : DE G X W (.UnaryOp op a pos) (tUn r ta) (kUn f fa) := de_un ho hp ha
theorem x_cmp {op : CmpOp} (ho : OpR X (compareOp op) r) (hp : Prim2 G r f) (ha : DE G X W a ta fa) (hb : DE G X W b tb fb) (hm : behindInMarks op b = false := by first | exact nomark _ | rfl) : DE G X W (.Compare a [op] [b] pos) (tOp r ta tb) (kOp f fa fb) := de_cmp ho hp ha hb hm
theorem x_chain {op op' : CmpOp} (ho : OpR X (compareOp op) r) (ho' : OpR X (compareOp op') r') (hp : Prim2 G r f) (hp' : Prim2 G r' f') (ha : DE G X W a ta fa) (hb : DE G X W b tb fb) (hc : DE G X W c tc fc)
    (hm : lastMarks [op, op'] [b, c] = false := by with_unfolding_all rfl) : DE G X W (.Compare a [op, op'] [b, c] pos) (tChain r r' ta tb tc) (kCh f f' fa fb fc) := de_chain ho ho' hp hp' ha hb hc hm
theorem q_val (h : DE G X W e te fe) (he : ∀ whole, isTrue e X.env whole = (do let v ← whole; standAt e.pos; holding [v] (truthy v)) := by intro _; rfl) : DT G X W e (tB te) (kB fe) := dt_val h he
theorem q_cmp {op : CmpOp} (ho : OpR X (compareOp op) r) (hp : Prim2 G r f) (ha : DE G X W a ta fa) (hb : DE G X W b tb fb) (hm : behindInMarks op b = false := by first | exact nomark _ | rfl) : DT G X W (.Compare a [op] [b] pos) (tTest (tOp r ta tb)) (kB (kOp f fa fb)) := dt_cmp ho hp ha hb hm
theorem w_and1 (ha : DT G X W a A1 f1) : DW G X W (.BoolOp .And [a] pos) A1 f1 := dw_and1 ha
theorem w_or1 (ha : DT G X W a A1 f1) : DW G X W (.BoolOp .Or [a] pos) A1 f1 := dw_or1 ha
theorem w_and (ha : DT G X W a A1 f1) (hb : DW G X W (.BoolOp .And (b :: rest) pos) A2 f2) : DW G X W (.BoolOp .And (a :: b :: rest) pos) (tAnd A1 A2) (kAnd f1 f2) := dw_and ha hb
theorem w_or (ha : DT G X W a A1 f1) (hb : DW G X W (.BoolOp .Or (b :: rest) pos) A2 f2) : DW G X W (.BoolOp .Or (a :: b :: rest) pos) (tOr A1 A2) (kOr f1 f2) := dw_or ha hb
theorem q_not (ha : DT G X W a A1 f1) : DT G X W (.UnaryOp .Not a pos) (tNot A1) (kNot f1) := dt_not ha
theorem x_and (ha : DE G X W a ta fa) (hb : DE G X W (.BoolOp .And (b :: rest) pos) tb fb) : DE G X W (.BoolOp .And (a :: b :: rest) pos) (tAndV ta tb) (kAndV fa fb) := de_and ha hb
theorem x_or (ha : DE G X W a ta fa) (hb : DE G X W (.BoolOp .Or (b :: rest) pos) tb fb) : DE G X W (.BoolOp .Or (a :: b :: rest) pos) (tOrV ta tb) (kOrV fa fb) := de_or ha hb
theorem x_not (ha : DE G X W a ta fa) : DE G X W (.UnaryOp .Not a pos) (tNotV ta) (kNotV fa) := de_not ha
theorem x_ifExp (hc : DT G X W c A1 f1) (ha : DE G X W a ta fa) (hb : DE G X W b tb fb) : DE G X W (.IfExp c a b pos) (tIf A1 ta tb) (kIf f1 fa fb) := de_ifExp hc ha hb
theorem a_nil : DA G X W [] tNil aNil := da_nil
theorem a_cons (ha : DE G X W e te fe) (hr : DA G X W es tA fA) (hs : starEach (e :: es) X.env = (false, eval e X.env) :: starEach es X.env := by rfl) : DA G X W (e :: es) (tCons te tA) (aCons fe fA) := da_cons ha hr hs
theorem l_nil : LenA aNil 0 := len_nil
theorem l_cons {n : Nat} (h : LenA fA n) : LenA (aCons fe fA) (n + 1) := len_cons h
theorem x_tup {x1} (h : DA G X W es tA fA) : DE G X W (.Tuple es x1 pos) (tTup tA) (kCall tupD fA) := de_tup h
theorem x_lst (h : DA G X W es tA fA) : DE G X W (.List es pos) (tLst tA) (kCall lstD fA) := de_lst h
theorem x_ix (hK : X.K = K) (ha : DE G X W a ta fa) (hb : DE G X W b tb fb) (hs : PlainIx b := by exact fun _ _ => rfl) : DE G X W (.Subscript a b pos) (tOp (fun x y H Q => rIxL K x y H Q ∨ rIxT K x y H Q) ta tb) (kOp itemD fa fb) := de_ix hK ha hb hs
theorem x_call {k n : Nat} {g : Addr} {fd : FuncData} {ps : List Str} {m : List D → M D} {x : Str} {p0 : Pos} (F : FnOk X.prog X.w X.K X.mg X.base (L2.CX X.prog X.w) k g fd ps (spM G n m)) (hr : Room k X.A) (tk : Takes X W) (hm : X.mg x = some (.ref g)) (hk : PySem.W.keepIn X.K (.ref g) = true) (hb : L2.Binds X.K fd ps [])
    (ha : DA G X W (e :: es) tA fA) (hl : LenA fA n) (hg : Gl X x := by rfl) (hdb : (x == ("__debug__" : Str)) = false := by decide) (he : starEach (e :: es) X.env = (false, eval e X.env) :: starEach es X.env := by rfl) (hpl : (backTo pos (starEach es X.env)).any (·.1) = false := by rfl) :
    DE G X W (.Call (.Name x p0) (e :: es) [] pos) (tCallS (spM G n m) (WE W) tA) (kCall m fA) := de_call F hr tk hg hm hk hb ha hl hdb he hpl
theorem x_callB {x : Str} {p0 : Pos} {id : String} {rl : List V → Hp → VK → Prop} {g : List D → M D} (hc : CallR X (.builtin id) rl) (hp : PrimL G rl g) (hm : X.mg x = none) (hv : bootBuiltins x = some (.builtin id)) (ha : DA G X W (e :: es) tA fA) (hg : Gl X x := by rfl) (hn : x ≠ "__name__" := by decide) (hdb : (x == ("__debug__" : Str)) = false := by decide)
    (he : starEach (e :: es) X.env = (false, eval e X.env) :: starEach es X.env := by rfl) (hpl : (backTo pos (starEach es X.env)).any (·.1) = false := by rfl) : DE G X W (.Call (.Name x p0) (e :: es) [] pos) (tCB rl tA) (kCall g fA) := de_callB hc hp hg hm hv ha hn hdb he hpl
theorem x_callTy {x : Str} {p0 : Pos} {T : String} {rl : List V → Hp → VK → Prop} {g : List D → M D} (hc : CallR X (.type T) rl) (hp : PrimL G rl g) (hm : X.mg x = none) (hv : bootBuiltins x = some (.type T)) (ha : DA G X W (e :: es) tA fA) (hg : Gl X x := by rfl) (hn : x ≠ "__name__" := by decide) (hdb : (x == ("__debug__" : Str)) = false := by decide)
    (he : starEach (e :: es) X.env = (false, eval e X.env) :: starEach es X.env := by rfl) (hpl : (backTo pos (starEach es X.env)).any (·.1) = false := by rfl) : DE G X W (.Call (.Name x p0) (e :: es) [] pos) (tCB rl tA) (kCall g fA) := de_callTy hc hp hg hm hv ha hn hdb he hpl
theorem x_callG {x : Str} {p0 : Pos} {id : String} {rl : List V → Hp → VK → Prop} {g : List D → M D} (hc : CallR X (.builtin id) rl) (hp : PrimL G rl g) (hm : X.mg x = some (.builtin id)) (ha : DA G X W (e :: es) tA fA) (hg : Gl X x := by rfl) (hdb : (x == ("__debug__" : Str)) = false := by decide)
    (he : starEach (e :: es) X.env = (false, eval e X.env) :: starEach es X.env := by rfl) (hpl : (backTo pos (starEach es X.env)).any (·.1) = false := by rfl) : DE G X W (.Call (.Name x p0) (e :: es) [] pos) (tCB rl tA) (kCall g fA) := de_callBfun hc hp hg hm ha hdb he hpl
theorem i_list {tg : Expr} (hK : X.K = K) (hl : DE G X W e te fe) : DI G X W tg e (iList K te) (iL fe) := di_list hK hl
theorem i_tup {tg : Expr} (hK : X.K = K) (hl : DE G X W e te fe) : DI G X W tg e (iTup K te) (iT fe) := di_tup hK hl
theorem i_range1 {tg : Expr} {p0 : Pos} (hm : X.mg "range" = none) (ha : DA G X W [a] tA fA) (hg : Gl X "range" := by rfl) (hs : starEach [a] X.env = [(false, eval a X.env)] := by rfl) : DI G X W tg (.Call (.Name "range" p0) [a] [] pos) (iRng1 tA) (iR1 fA) := di_range1 hg hm ha hs
theorem i_range2 {tg : Expr} {p0 : Pos} (hm : X.mg "range" = none) (ha : DA G X W [a, b] tA fA) (hg : Gl X "range" := by rfl) (hs : starEach [a, b] X.env = [(false, eval a X.env), (false, eval b X.env)] := by rfl) (hs2 : starEach [b] X.env = [(false, eval b X.env)] := by rfl) : DI G X W tg (.Call (.Name "range" p0) [a, b] [] pos) (iRng2 tA) (iR2 fA) := di_range2 hg hm ha hs hs2
theorem x_lc {tg iter elt : Expr} {ifs : List Expr} {scope : Scope} (own : List (Str × Nat)) {wi : TI} {g : TG} {gm : D → Loc → Option Loc} {fi : Loc → M (List D)} {tt : TT} {mt : Loc → M Bool} (hc : X.calm = true) (hN : X.N.Nodup) (hi : DI G X W tg iter wi fi) (ok : BlkOk X.N X.env.scope scope own)
    (hg : ∀ (s : Shared) (H : Hp) (C : Addr) (cl : List (Str × Addr)) (fp : List Addr), DG G (X.blk s H scope (compEnvC scope cl C X.env) fp) (own.map (·.2)) tg g gm) (ht : ∀ (s : Shared) (H : Hp) (C : Addr) (cl : List (Str × Addr)) (fp : List Addr), PTs (X.blk s H scope (compEnvC scope cl C X.env) fp) ifs tt) (htr : RunG G W0 RelB tt mt)
    (he : ∀ (s : Shared) (H : Hp) (C : Addr) (cl : List (Str × Addr)) (fp : List Addr), DE G (X.blk s H scope (compEnvC scope cl C X.env) fp) W0 elt te fe) (hs : ∀ x, foldedSetIterable iter X.env x = pure x := by intro _; rfl) :
    DE G X W (.ListComp elt [⟨tg, iter, ifs, 0⟩] scope pos) (tLc wi g tt te (own.map (·.2))) (kLc fi gm mt fe (own.map (·.2))) := de_lc hc hN hi ok hg ht htr he hs
theorem z_setLc {i : Nat} {y : Str} {py spos : Pos} {tg iter elt : Expr} {ifs : List Expr} {scope : Scope} (own : List (Str × Nat)) {wi : TI} {g : TG} {gm : D → Loc → Option Loc} {fi : Loc → M (List D)} {tt : TT} {mt : Loc → M Bool} (hc : X.calm = true) (hN : X.N.Nodup) (hy : X.N[i]? = some y) (hyl : X.env.scope.names.lookup y = some .local)
    (hsw : swapsWith (.ListComp elt [⟨tg, iter, ifs, 0⟩] scope pos) (some (.Name y py)) spos.line X.env = pure true) (hi : DI G X W tg iter wi fi) (ok : BlkOk X.N X.env.scope scope own)
    (hg : ∀ (s : Shared) (H : Hp) (C : Addr) (cl : List (Str × Addr)) (fp : List Addr), DG G (X.blk s H scope (compEnvC scope cl C X.env) fp) (own.map (·.2)) tg g gm) (ht : ∀ (s : Shared) (H : Hp) (C : Addr) (cl : List (Str × Addr)) (fp : List Addr), PTs (X.blk s H scope (compEnvC scope cl C X.env) fp) ifs tt) (htr : RunG G W0 RelB tt mt)
    (he : ∀ (s : Shared) (H : Hp) (C : Addr) (cl : List (Str × Addr)) (fp : List Addr), DE G (X.blk s H scope (compEnvC scope cl C X.env) fp) W0 elt te fe) (hs : ∀ x, foldedSetIterable iter X.env x = pure x := by intro _; rfl) :
    DS G X W (.Assign [.Name y py] (.ListComp elt [⟨tg, iter, ifs, 0⟩] scope pos) spos) (tAsg (tLc wi g tt te (own.map (·.2))) (gName i)) (sasg (kLc fi gm mt fe (own.map (·.2))) (gnm i)) := ds_setLc hc hN hy hyl hsw hi ok hg ht htr he hs
theorem z_nil : DSs G X W [] tNext zNx := dss_nil
theorem z_expr (he : DE G X W e te fe) (hs : swapsWith e none pos.line X.env = pure false := by rfl) : DS G X W (.Expr e pos) (tDrop te) (zEx fe) := ds_expr he hs
theorem z_ret (he : DE G X W e te fe) : DS G X W (.Return (some e) pos) (tRet te) (zRet fe) := ds_ret he
theorem z_retN : DS G X W (.Return none pos) tRetN zRetN := ds_retN
theorem z_pass : DS G X W (.Pass pos) tNext zNx := ds_pass
theorem z_break : DS G X W (.Break pos) tBreak zBk := ds_break
theorem z_continue : DS G X W (.Continue pos) tCont zCt := ds_continue
theorem z_if {x y : List Stmt} (hc : DT G X W c A1 f1) (ha : DSs G X W x t m) (hb : DSs G X W y u m') : DS G X W (.If c x y pos) (tIfS A1 t u) (zIf f1 m m') := ds_if hc ha hb
theorem z_raise0 {cn : Nat} {x : Str} {fI : Addr} {stI : Stmt} {qual : Str} {fd : FuncData} {p0 pos' ppos : Pos} (hc : X.calm = true) (tk : Takes X W) (E : Err0 X.K X.mg x (G.cls cn) fI stI qual fd) (S : FnScope ["self"] ["self"] (defScope stI)) (hb : defBody stI = [.Pass ppos]) (hr : Room 2 X.A) (hg : Gl X x := by rfl) (hdb : (x == ("__debug__" : Str)) = false := by decide) :
    DS G X W (.Raise (some (.Call (.Name x p0) [] [] pos')) none pos) (fun _ σ H => ∀ H', (∀ b o, H b = some o → H' b = some o) → W (.ref (G.cls cn)) none σ H') (zRaise cn) :=
  ds_raise0 hc tk (pmk_no E.ox E.fi E.ti (ok_noinit E.fn S hb) hr E.bd hg E.m hdb)
theorem g_tup {vs : List Nat} {n k : Nat} {gs : TGs} {g2 : List D → Loc → Option Loc} (hK : X.K = K) (hc : X.calm = true) (h : DGs G X vs es gs g2) (hn : (assignEach es X.env).length = n := by rfl) (hst : (assignEach es X.env).findIdx? (·.1) = none := by rfl) : DG G X vs (.Tuple es k pos) (gTup K n gs) (gtm n g2) := by
  subst hK; exact dg_tup h.run (pg_tup hc h.pg hn hst)
theorem g_lst {vs : List Nat} {n k : Nat} {gs : TGs} {g2 : List D → Loc → Option Loc} (hK : X.K = K) (hc : X.calm = true) (h : DGs G X vs es gs g2) (hn : (assignEach es X.env).length = n := by rfl) (hst : (assignEach es X.env).findIdx? (·.1) = none := by rfl) : DG G X vs (.Tuple es k pos) (gLst K n gs) (glm n g2) := by
  subst hK; exact dg_lst h.run (pg_lst hc h.pg hn hst)
def gnl : List D → Loc → Option Loc := fun ds ρ => match ds with
  | [] => some ρ
  | _ => none
theorem g_nil {vs : List Nat} : DGs G X vs [] gNil gnl := dgs_nil
theorem g_cons {vs : List Nat} {g : TG} {gs : TGs} {g1 : D → Loc → Option Loc} {g2 : List D → Loc → Option Loc} (h1 : DG G X vs e g g1) (h2 : DGs G X vs es gs g2) (hs : (assignEach (e :: es) X.env).map (·.2) = assign e X.env :: (assignEach es X.env).map (·.2) := by rfl) : DGs G X vs (e :: es) (gCons g gs) (gcn g1 g2) := dgs_cons h1 h2 (pgs_cons h1.pg h2.pg hs)
end
end Tw

set_option Elab.async false
set_option linter.all false
set_option maxRecDepth 100000
set_option maxHeartbeats 4000000
set_option autoImplicit false
namespace Tw
open PySem L2
theorem mbind_ret {α β : Type} (a : α) (f : α → M β) : mbind (mret a) f = f a := rfl
theorem mbind_bad {α β : Type} (f : α → M β) : mbind mbad f = mbad := rfl
theorem sof_ret {α : Type} (a : α) (s : Pen) (ρ : Loc) (k : α → Pen → OutS) : sof (mret a s) ρ k = k a s := rfl
theorem mbind_ap {α β : Type} (m : M α) (f : α → M β) (s : Pen) : mbind m f s = obind (m s) f := rfl
theorem obind_ok {α β : Type} (a : α) (s : Pen) (f : α → M β) : obind (.ok a s) f = f a s := rfl
theorem sof_ok {α : Type} (a : α) (s : Pen) (ρ : Loc) (k : α → Pen → OutS) : sof (.ok a s) ρ k = k a s := rfl
theorem mret_ap {α : Type} (a : α) (s : Pen) : mret a s = .ok a s := rfl
theorem sseq_nx {m m' : MS} {ρ ρ' : Loc} {s s' : Pen} (h : m ρ s = .nx ρ' s') : sseq m m' ρ s = m' ρ' s' := by unfold sseq; rw [h]
theorem sseq_ret {m m' : MS} {ρ : Loc} {d : D} {s s' : Pen} (h : m ρ s = .ret d s') : sseq m m' ρ s = .ret d s' := by unfold sseq; rw [h]
theorem mdef_ret {n : Nat} {b : MS} {ds : List D} {d : D} {s s' : Pen} (h : b (startL n ds) s = .ret d s') : mdef n b ds s = .ok d s' := by unfold mdef; rw [h]
theorem pow_eq (i j : Int) (h : (decide (0 ≤ j ∧ j ≤ 1000000 ∧ i.natAbs < 2 ^ 64)) = true) : powI (.int i) (.int j) = mret (.int (i ^ j.toNat)) := by
  show (if (decide (0 ≤ j ∧ j ≤ 1000000 ∧ i.natAbs < 2 ^ 64)) = true then _ else _) = _
  rw [if_pos h]
theorem p9 : powI (.int 10) (.int 9) = mret (.int 1000000000) := rfl
theorem p15 : powI (.int 10) (.int 15) = mret (.int 1000000000000000) := rfl
theorem p18 : powI (.int 10) (.int 18) = mret (.int 1000000000000000000) := rfl
theorem p20 : powI (.int 10) (.int 20) = mret (.int 100000000000000000000) := rfl
theorem p30 : powI (.int 10) (.int 30) = mret (.int 1000000000000000000000000000000) := rfl
theorem mul_eq {i j : Int} (h : mulOk i j = true) : mulI (.int i) (.int j) = mret (.int (i * j)) := by
  show (if mulOk i j = true then mret (D.int (i * j)) else mbad) = _
  rw [if_pos h]
theorem mulOk_r {i j : Int} (h : j.natAbs < 2 ^ 64) : mulOk i j = true := by unfold mulOk; rw [decide_eq_true h]; rfl
theorem mulOk_l {i j : Int} (h : i.natAbs < 2 ^ 64) : mulOk i j = true := by
  unfold mulOk
  rw [decide_eq_true h]
  cases decide (j.natAbs < 2 ^ 64) <;> rfl
theorem log2_le {n m : Nat} (h : n ≤ m) : n.log2 ≤ m.log2 := by
  by_cases h0 : n = 0
  · subst h0; simp
  · exact (Nat.le_log2 (by omega)).mpr (Nat.le_trans (Nat.log2_self_le h0) h)
/-- below 2 ^ n -/
def Sm (n : Nat) (x : Int) : Prop := x.natAbs < 2 ^ n
instance {n : Nat} {x : Int} : Decidable (Sm n x) := inferInstanceAs (Decidable (x.natAbs < 2 ^ n))
theorem Sm.log {n : Nat} {x : Int} (h : Sm n x) (hn : 0 < n) : x.natAbs.log2 < n := PySem.Flt.log2_lt_of hn h
theorem mulOk_s {i j : Int} {n m : Nat} (hi : Sm n i) (hj : Sm m j) (hn : 0 < n) (hm : 0 < m) (h : n + m ≤ 1000000) : mulOk i j = true := by
  have h1 := hi.log hn
  have h2 := hj.log hm
  unfold mulOk
  rw [decide_eq_true (show i.natAbs.log2 + j.natAbs.log2 < 1000000 by omega)]
  cases decide (j.natAbs < 2 ^ 64) <;> cases decide (i.natAbs < 2 ^ 64) <;> rfl
theorem Sm.mul {i j : Int} {n m : Nat} (hi : Sm n i) (hj : Sm m j) : Sm (n + m) (i * j) := wide_lt hi hj
theorem Sm.add {i j : Int} {n : Nat} (hi : Sm n i) (hj : Sm n j) : Sm (n + 1) (i + j) := by
  unfold Sm at *
  have : (2 : Nat) ^ (n + 1) = 2 ^ n + 2 ^ n := by rw [Nat.pow_succ]; omega
  omega
theorem Sm.sub {i j : Int} {n : Nat} (hi : Sm n i) (hj : Sm n j) : Sm (n + 1) (i - j) := by
  unfold Sm at *
  have : (2 : Nat) ^ (n + 1) = 2 ^ n + 2 ^ n := by rw [Nat.pow_succ]; omega
  omega
theorem Sm.mono {i : Int} {n m : Nat} (hi : Sm n i) (h : n ≤ m) : Sm m i := Nat.lt_of_lt_of_le hi (Nat.pow_le_pow_right (by decide) h)
/-- isinstance by a built-in type -/
theorem isi_of {x : D} {T a : String} (h : tag x = some a) (hk : kitB a T = some (subT a T)) : isiB [x, .ty T] = mret (.bl (subT a T)) := by
  show (match tag x with | some a => if decide (kitB a T = some (subT a T)) = true then mret (D.bl (subT a T)) else mbad | none => mbad) = _
  rw [h]
  show (if decide (kitB a T = some (subT a T)) = true then mret (D.bl (subT a T)) else mbad) = _
  rw [if_pos (decide_eq_true hk)]
theorem ii_int (i : Int) : isiB [.int i, .ty "int"] = mret (.bl true) := isi_of (a := "int") rfl (by decide +kernel)
theorem ii_bool (i : Int) : isiB [.int i, .ty "bool"] = mret (.bl false) := isi_of (a := "int") rfl (by decide +kernel)
theorem ib_int (i : Bool) : isiB [.bl i, .ty "int"] = mret (.bl true) := isi_of (a := "bool") rfl (by decide +kernel)
theorem ib_bool (i : Bool) : isiB [.bl i, .ty "bool"] = mret (.bl true) := isi_of (a := "bool") rfl (by decide +kernel)
theorem in_int : isiB [.non, .ty "int"] = mret (.bl false) := isi_of (a := "NoneType") rfl (by decide +kernel)
theorem is_int (x : Str) : isiB [.str x, .ty "int"] = mret (.bl false) := isi_of (a := "str") rfl (by decide +kernel)
theorem it_int (xs : List D) : isiB [.tup xs, .ty "int"] = mret (.bl false) := isi_of (a := "tuple") rfl (by decide +kernel)
theorem il_int (xs : List D) : isiB [.lst xs, .ty "int"] = mret (.bl false) := isi_of (a := "list") rfl (by decide +kernel)
theorem it_tuple (xs : List D) : isiB [.tup xs, .ty "tuple"] = mret (.bl true) := isi_of (a := "tuple") rfl (by decide +kernel)
theorem atI_int {ns : List Int} {i : Nat} (h : i < ns.length) : ∃ n, atI (ns.map D.int) (i : Int) = some (.int n) := by
  refine ⟨ns[i], atI_nat ?_⟩
  rw [List.getElem?_map, List.getElem?_eq_some_iff.mpr ⟨h, rfl⟩]
  rfl
theorem fmd_eq {i j : Int} (h : j ≠ 0) : fmdI (.int i) (.int j) = mret (.int (i.fmod j)) := by
  show (if decide (j ≠ 0) = true then mret (D.int (i.fmod j)) else mbad) = _
  rw [if_pos (decide_eq_true h)]
theorem fdv_eq {i j : Int} (h : j ≠ 0) (h9 : j.natAbs.log2 < 9000) : fdvI (.int i) (.int j) = mret (.int (i.fdiv j)) := by
  show (if decide (j ≠ 0 ∧ j.natAbs.log2 < 9000) = true then mret (D.int (i.fdiv j)) else mbad) = _
  rw [if_pos (decide_eq_true ⟨h, h9⟩)]
theorem fdv_64 {i : Int} : fdvI (.int i) (.int 64) = mret (.int (i.fdiv 64)) := fdv_eq (by decide) (by decide)
end Tw

set_option Elab.async false
set_option linter.all false
set_option maxRecDepth 100000
set_option maxHeartbeats 4000000
set_option autoImplicit false
namespace Tw
open PySem L2
/-! ### ratios -/
/-- a ratio as the program has it -/
def rd (q : Rat) : D := .tup [.int q.num, .int (q.den : Nat)]
theorem cross {a b : Int} (hb : b ≠ 0) : (Rat.divInt a b).num * b = a * ((Rat.divInt a b).den : Nat) := by
  have h := Rat.num_divInt_den (Rat.divInt a b)
  have hd : (((Rat.divInt a b).den : Nat) : Int) ≠ 0 := by have := (Rat.divInt a b).den_nz; omega
  exact (Rat.divInt_eq_divInt_iff hd hb).mp h
theorem rat_add (p q : Rat) : p + q = Rat.divInt (p.num * (q.den : Nat) + q.num * (p.den : Nat)) ((p.den : Nat) * (q.den : Nat)) := by
  have h1 : ((p.den : Nat) : Int) ≠ 0 := by have := p.den_nz; omega
  have h2 : ((q.den : Nat) : Int) ≠ 0 := by have := q.den_nz; omega
  rw [← Rat.divInt_add_divInt _ _ h1 h2, Rat.num_divInt_den, Rat.num_divInt_den]
theorem rat_mul (p q : Rat) : p * q = Rat.divInt (p.num * q.num) ((p.den : Nat) * (q.den : Nat)) := by
  have h1 : ((p.den : Nat) : Int) ≠ 0 := by have := p.den_nz; omega
  have h2 : ((q.den : Nat) : Int) ≠ 0 := by have := q.den_nz; omega
  rw [← Rat.divInt_mul_divInt, Rat.num_divInt_den, Rat.num_divInt_den]
theorem dens (p q : Rat) : ((p.den : Nat) : Int) * ((q.den : Nat) : Int) ≠ 0 := by
  have h1 : ((p.den : Nat) : Int) ≠ 0 := by have := p.den_nz; omega
  have h2 : ((q.den : Nat) : Int) ≠ 0 := by have := q.den_nz; omega
  exact Int.mul_ne_zero h1 h2
/-- both numbers of a ratio are below 2 ^ n -/
def Rs (n : Nat) (q : Rat) : Prop := Sm n q.num ∧ Sm n ((q.den : Nat) : Int)
theorem rs_of {a b : Int} {n : Nat} (ha : Sm n a) (hb : Sm n b) (h0 : b ≠ 0) : Rs n (Rat.divInt a b) := by
  unfold Rs Sm at *
  have hg : 0 < b.gcd a := Int.gcd_pos_of_ne_zero_left a h0
  rw [Rat.num_divInt, Rat.den_divInt, if_neg h0]
  constructor
  · refine Nat.lt_of_le_of_lt ?_ ha
    have e : (b.sign * a).natAbs = a.natAbs := by
      rw [Int.natAbs_mul, Int.natAbs_sign_of_ne_zero h0, Nat.one_mul]
    refine Nat.le_trans (Int.natAbs_ediv_le_natAbs _ _) ?_
    rw [e]
    exact Nat.le_refl _
  · refine Nat.lt_of_le_of_lt ?_ hb
    show ((b.natAbs / b.gcd a : Nat) : Int).natAbs ≤ b.natAbs
    rw [Int.natAbs_natCast]
    exact Nat.div_le_self _ _
theorem sh2 (a b : Int) : SeqAt.shaped (.tuple [.int a, .int b]) = true := rfl
theorem eq_rd (p : Rat) : eqA (rd p) (rd p) = mret (.bl true) := by
  show (if (SeqAt.shaped (.tuple [.int p.num, .int (p.den : Nat)]) && SeqAt.shaped (.tuple [.int p.num, .int (p.den : Nat)])) = true then mret (D.bl (PyData.eqv (.tuple [.int p.num, .int (p.den : Nat)]) (.tuple [.int p.num, .int (p.den : Nat)]))) else mbad) = _
  rw [if_pos (by rw [sh2]; rfl)]
  rw [show PyData.eqv (.tuple [.int p.num, .int (p.den : Nat)]) (.tuple [.int p.num, .int (p.den : Nat)]) = true by simp [PyData.eqv, PyData.eqvAll]]
theorem ne_rd (p : Rat) : neA (rd p) (rd p) = mret (.bl false) := by
  show (if (SeqAt.shaped (.tuple [.int p.num, .int (p.den : Nat)]) && SeqAt.shaped (.tuple [.int p.num, .int (p.den : Nat)])) = true then mret (D.bl (!PyData.eqv (.tuple [.int p.num, .int (p.den : Nat)]) (.tuple [.int p.num, .int (p.den : Nat)]))) else mbad) = _
  rw [if_pos (by rw [sh2]; rfl)]
  rw [show PyData.eqv (.tuple [.int p.num, .int (p.den : Nat)]) (.tuple [.int p.num, .int (p.den : Nat)]) = true by simp [PyData.eqv, PyData.eqvAll]]
  rfl
/-- the two numbers of a lowered fraction, as the program makes them -/
theorem lowered (a b : Int) (hb : b ≠ 0) (g : Int) (eg : g = if b < 0 then -((Nat.gcd a.natAbs b.natAbs : Nat) : Int) else ((Nat.gcd a.natAbs b.natAbs : Nat) : Int)) : (D.tup [.int (a.fdiv g), .int (b.fdiv g)] : D) = rd (Rat.divInt a b) := by
  have hg : 0 < Nat.gcd a.natAbs b.natAbs := Nat.gcd_pos_of_pos_right _ (by omega)
  have hi : ((Nat.gcd a.natAbs b.natAbs : Nat) : Int) ≠ 0 := by omega
  have e1 : ((Nat.gcd a.natAbs b.natAbs : Nat) : Int) ∣ a := Int.ofNat_dvd_left.mpr (Nat.gcd_dvd_left ..)
  have e2 : ((Nat.gcd a.natAbs b.natAbs : Nat) : Int) ∣ b := Int.ofNat_dvd_left.mpr (Nat.gcd_dvd_right ..)
  have ec : (b.gcd a : Nat) = Nat.gcd a.natAbs b.natAbs := by rw [Int.gcd, Nat.gcd_comm]
  unfold rd
  rw [Rat.num_divInt, Rat.den_divInt, if_neg hb, ec]
  obtain ⟨x, hx⟩ := e1
  obtain ⟨y, hy⟩ := e2
  generalize hG : Nat.gcd a.natAbs b.natAbs = G0 at *
  by_cases hneg : b < 0
  · rw [if_pos hneg] at eg
    subst eg
    have hs : b.sign = -1 := Int.sign_eq_neg_one_of_neg hneg
    have ha1 : a.fdiv (-(G0 : Int)) = -x := by
      rw [Int.fdiv_eq_ediv_of_dvd (Int.neg_dvd.mpr ⟨x, hx⟩), Int.ediv_neg, hx, Int.mul_ediv_cancel_left _ hi]
    have hb1 : b.fdiv (-(G0 : Int)) = -y := by
      rw [Int.fdiv_eq_ediv_of_dvd (Int.neg_dvd.mpr ⟨y, hy⟩), Int.ediv_neg, hy, Int.mul_ediv_cancel_left _ hi]
    have ha2 : b.sign * a / (G0 : Int) = -x := by
      rw [hs, hx, Int.neg_one_mul, ← Int.mul_neg, Int.mul_ediv_cancel_left _ hi]
    have hyn : y < 0 := by
      rcases Int.lt_trichotomy y 0 with h | h | h
      · exact h
      · rw [h, Int.mul_zero] at hy; omega
      · have := Int.mul_pos (show (0 : Int) < (G0 : Int) by omega) h
        omega
    have hb2 : ((b.natAbs / G0 : Nat) : Int) = -y := by
      have e : b.natAbs = G0 * (-y).toNat := by
        have : (b.natAbs : Int) = (G0 : Int) * ((-y).toNat : Int) := by
          rw [Int.toNat_of_nonneg (by omega), Int.mul_neg, ← hy]; omega
        exact_mod_cast this
      rw [e, Nat.mul_div_cancel_left _ hg]
      exact Int.toNat_of_nonneg (by omega)
    rw [ha1, hb1, ha2, hb2]
  · rw [if_neg hneg] at eg
    subst eg
    have hs : b.sign = 1 := Int.sign_eq_one_of_pos (by omega)
    have ha1 : a.fdiv (G0 : Int) = x := by
      rw [Int.fdiv_eq_ediv_of_dvd ⟨x, hx⟩, hx, Int.mul_ediv_cancel_left _ hi]
    have hb1 : b.fdiv (G0 : Int) = y := by
      rw [Int.fdiv_eq_ediv_of_dvd ⟨y, hy⟩, hy, Int.mul_ediv_cancel_left _ hi]
    have ha2 : b.sign * a / (G0 : Int) = x := by
      rw [hs, Int.one_mul, hx, Int.mul_ediv_cancel_left _ hi]
    have hyp : 0 < y := by
      rcases Int.lt_trichotomy y 0 with h | h | h
      · have := Int.mul_neg_of_pos_of_neg (show (0 : Int) < (G0 : Int) by omega) h
        omega
      · rw [h, Int.mul_zero] at hy; omega
      · exact h
    have hb2 : ((b.natAbs / G0 : Nat) : Int) = y := by
      have e : b.natAbs = G0 * y.toNat := by
        have : (b.natAbs : Int) = (G0 : Int) * (y.toNat : Int) := by
          rw [Int.toNat_of_nonneg (by omega), ← hy]; omega
        exact_mod_cast this
      rw [e, Nat.mul_div_cancel_left _ hg]
      exact Int.toNat_of_nonneg (by omega)
    rw [ha1, hb1, ha2, hb2]
/-- the signs -/
theorem signs {p q : Rat} {a0 a1 b0 b1 : Int} (ha : a1 ≠ 0) (hb : b1 ≠ 0) (hp : p = Rat.divInt a0 a1) (hq : q = Rat.divInt b0 b1) :
    Int.sign (p.num * (q.den : Nat) - q.num * (p.den : Nat)) = Int.sign (a0 * b1 - b0 * a1) * Int.sign (a1 * b1) := by
  have cp : p.num * a1 = a0 * (p.den : Nat) := by rw [hp]; exact cross ha
  have cq : q.num * b1 = b0 * (q.den : Nat) := by rw [hq]; exact cross hb
  have dp : (0 : Int) < (p.den : Nat) := by have := p.den_nz; omega
  have dq : (0 : Int) < (q.den : Nat) := by have := q.den_nz; omega
  generalize ((p.den : Nat) : Int) = P at *
  generalize ((q.den : Nat) : Int) = Q at *
  generalize p.num = x at *
  generalize q.num = y at *
  have key : (x * Q - y * P) * (a1 * b1) = (a0 * b1 - b0 * a1) * (P * Q) := by grind
  have hz : a1 * b1 ≠ 0 := Int.mul_ne_zero ha hb
  have s1 : Int.sign (x * Q - y * P) * Int.sign (a1 * b1) = Int.sign (a0 * b1 - b0 * a1) := by
    rw [← Int.sign_mul, key, Int.sign_mul, Int.sign_eq_one_of_pos (Int.mul_pos dp dq), Int.mul_one]
  rw [← s1, Int.mul_assoc]
  have s2 : Int.sign (a1 * b1) * Int.sign (a1 * b1) = 1 := by
    rcases Int.lt_or_gt_of_ne hz with h | h
    · rw [Int.sign_eq_neg_one_of_neg h]; rfl
    · rw [Int.sign_eq_one_of_pos h]; rfl
  rw [s2, Int.mul_one]
/-- a loop whose turns all go on and leave the pen -/
theorem sloop_all {gm : D → Loc → Option Loc} {mb : MS} {s : Pen} (I : Loc → Prop) : ∀ (ds : List D) (ρ : Loc), I ρ → (∀ d ∈ ds, ∀ ρ, I ρ → ∃ ρ1 ρ2, gm d ρ = some ρ1 ∧ mb ρ1 s = .nx ρ2 s ∧ I ρ2) → ∃ ρ', sloop gm mb ds ρ s = .nx ρ' s ∧ I ρ'
  | [], ρ, h, _ => ⟨ρ, rfl, h⟩
  | d :: ds, ρ, h, ht => by
    obtain ⟨ρ1, ρ2, e1, e2, h2⟩ := ht d (List.mem_cons_self ..) ρ h
    obtain ⟨ρ', e3, h3⟩ := sloop_all I ds ρ2 h2 fun x hx => ht x (List.mem_cons_of_mem _ hx)
    refine ⟨ρ', ?_, h3⟩
    unfold sloop
    rw [e1]
    dsimp only
    rw [e2]
    exact e3
end Tw

set_option Elab.async false
set_option linter.all false
set_option maxRecDepth 100000
set_option maxHeartbeats 4000000
set_option autoImplicit false
namespace Tw
open PySem L2 PySem.Spec PyProof.Rows
section
variable {K : PySem.W.Frag} {G : Gt} {W : WX} {X : Cx}
variable {a b c e o : Expr} {es : List Expr} {ta te to tv : TE} {fa fe fo fv : Loc → M D} {pos pos' apos : Pos} {tA : TA} {fA : Loc → M (List D)} {f m : Str}

/-! ### e.f -/
def fldOf (ns : List Str) (xs : List D) (f : Str) : Option D := (ns.zip xs).lookup f
theorem fld_rep {p : Fm} {H : Hp} : ∀ {ns : List Str} {xs : List D} {vs : List V} {f : Str} {d : D}, RepL G p H xs vs → fldOf ns xs f = some d → ∃ v, (ns.zip vs).lookup f = some v ∧ Rep G p H d v
  | [], xs, vs, f, d, _, h => by simp [fldOf] at h
  | n :: ns, [], vs, f, d, _, h => by simp [fldOf] at h
  | n :: ns, x :: xs, vs, f, d, q, h => by
    obtain ⟨v, r, rfl, q1, q2⟩ := q
    unfold fldOf at h
    simp only [List.zip_cons_cons, List.lookup] at h ⊢
    cases hb : (f == n) with
    | true => rw [hb] at h; cases h; exact ⟨v, rfl, q1⟩
    | false => rw [hb] at h; exact fld_rep (ns := ns) q2 h
/-- the class numbers that have the attribute in their instances -/
def FldOk (G : Gt) (K : PySem.W.Frag) (f : Str) (cf : Nat → Bool) : Prop := ∀ n, cf n = true → L2.Cls K (G.cls n) ∧ L2.NoAttr K (G.cls n) f
def fldD (cf : Nat → Bool) (f : Str) : D → M D := fun d s => match d with
  | .ins n ns xs => if cf n = true then (match fldOf ns xs f with
    | some x => .ok x s
    | none => .bad) else .bad
  | .self => if (cf s.ocls && s.ocls != gro) = true then (match s.obj.lookup f with
    | some x => .ok x s
    | none => .bad) else .bad
  | _ => .bad
def kFld (cf : Nat → Bool) (f : Str) (fa : Loc → M D) : Loc → M D := fun ρ => mbind (fa ρ) (fldD cf f)
theorem zip_map {α β : Type} : ∀ l : List (α × β), (l.map (·.1)).zip (l.map (·.2)) = l
  | [] => rfl
  | (x, y) :: l => by simp [zip_map l]
theorem x_fld {cf : Nat → Bool} (hc : FldOk G X.K f cf) (ha : DE G X W a ta fa) (hb : attributeBase a f X.env (eval a X.env) = eval a X.env := by rfl) : DE G X W (.Attribute a f pos) (tFld X.K ta f) (kFld cf f fa) := by
  refine ⟨pe_fld ha.pe hb, fun p σ H ρ s Q e pk fin => ?_⟩
  refine ha.run p σ H ρ s _ e pk (fin.step fun d s1 v H1 k1 pk1 rd fin1 => ?_)
  unfold fldD at fin1
  cases d <;> first
    | exact False.elim fin1
    | skip
  · rename_i n ns xs
    dsimp only at fin1
    by_cases hn : cf n = true
    · rw [if_pos hn] at fin1
      cases h : fldOf ns xs f with
      | none => rw [h] at fin1; exact False.elim fin1
      | some x =>
        rw [h] at fin1
        obtain ⟨a, dx, vs, rfl, h0, h1, hl, rs⟩ := rd
        obtain ⟨v, h2, h3⟩ := fld_rep (ns := ns) rs h
        exact ⟨a, _, dx, _, v, rfl, h1, (hc n hn).1, (hc n hn).2, h2, fin1 v H1 Keep.refl pk1 h3⟩
    · rw [if_neg hn] at fin1; exact False.elim fin1
  · dsimp only at fin1
    by_cases hn : (cf s1.ocls && s1.ocls != gro) = true
    · rw [if_pos hn] at fin1
      rw [Bool.and_eq_true] at hn
      have hg : s1.ocls ≠ gro := by simpa using hn.2
      replace hn := hn.1
      cases h : s1.obj.lookup f with
      | none => rw [h] at fin1; exact False.elim fin1
      | some x =>
        rw [h] at fin1
        obtain ⟨a, c, dx, ea, rfl⟩ := rd
        obtain ⟨vs, h1, ⟨hl, hcl, rfl⟩, rs⟩ := pk1.2.1 a c dx ea
        rw [show objO G s1.ocls dx (s1.obj.map (·.1)) vs = .ins (G.cls s1.ocls) dx ((s1.obj.map (·.1)).zip vs) from if_neg hg] at h1
        have h' : fldOf (s1.obj.map (·.1)) (s1.obj.map (·.2)) f = some x := by unfold fldOf; rw [zip_map]; exact h
        obtain ⟨v, h2, h3⟩ := fld_rep (ns := s1.obj.map (·.1)) rs h'
        have hx : clear x = true := by
          have : ∀ (l : List (Str × D)), clearL (l.map (·.2)) = true → l.lookup f = some x → clear x = true := by
            intro l
            induction l with
            | nil => intro _ z; cases z
            | cons y l ih =>
              intro z1 z2
              have z1 : (clear y.2 && clearL (l.map (·.2))) = true := z1
              rw [Bool.and_eq_true] at z1
              simp only [List.lookup] at z2
              split at z2
              · cases z2; exact z1.1
              · exact ih z1.2 z2
          exact this _ hcl h
        exact ⟨a, _, dx, _, v, rfl, h1, (hc _ hn).1, (hc _ hn).2, h2, fin1 v H1 Keep.refl pk1 (rep_move (G := G.bare) (G' := G) rfl rfl (fun _ _ _ z => z) x v hx h3)⟩
    · rw [if_neg hn] at fin1; exact False.elim fin1

/-! ### self.f = e within __init__ -/
def objPut (n : Nat) (f : Str) (fo fv : Loc → M D) : MS := fun ρ s => sof (fv ρ s) ρ fun d s1 => sof (fo ρ s1) ρ fun x s2 => match x with
  | .self => if (s2.ocls == n && n != gro && (s2.obj.lookup f).isNone && clear d && decide (s2.obj.length < 1000)) = true then .nx ρ { s2 with obj := s2.obj ++ [(f, d)] } else .bad
  | _ => .bad
theorem putF_new {f : Str} {y : V} : ∀ {fs : List (Str × V)}, fs.lookup f = none → putF f y fs = fs ++ [(f, y)]
  | [], _ => rfl
  | (g, x) :: r, h => by
    simp only [List.lookup] at h
    split at h
    · cases h
    · rename_i hb
      have hne : ¬ g = f := fun z => by subst z; simp at hb
      unfold putF
      rw [if_neg hne, putF_new h]
      rfl
theorem lookup_zip_none {f : Str} : ∀ {l : List (Str × D)} {vs : List V}, l.lookup f = none → ((l.map (·.1)).zip vs).lookup f = none
  | [], vs, _ => by simp
  | (g, x) :: r, [], _ => by simp
  | (g, x) :: r, v :: vs, h => by
    simp only [List.lookup] at h
    split at h
    · cases h
    · rename_i hb
      simp only [List.map_cons, List.zip_cons_cons, List.lookup, hb]
      exact lookup_zip_none h
theorem clearL_app : ∀ {xs ys : List D}, clearL (xs ++ ys) = (clearL xs && clearL ys)
  | [], ys => by simp [clearL]
  | x :: xs, ys => by simp [clearL, clearL_app (xs := xs), Bool.and_assoc]
theorem ds_objPut (n : Nat) (hc : L2.Cls X.K (G.cls n)) (hna : L2.NoAttr X.K (G.cls n) f) (ho : DE G X W o to fo) (hv : DE G X W e tv fv) (hs : swapsWith e (some (.Attribute o f pos')) pos.line X.env = pure false := by rfl) :
    DS G X W (.Assign [.Attribute o f pos'] e pos) (sFld X.K to tv f) (objPut n f fo fv) := by
  refine ⟨ps_fld ho.pe hv.pe hs, fun p σ H ρ s Z e pk fin => ?_⟩
  refine hv.run p σ H ρ s _ e pk (FinS.step fin (fun H1 s1 k1 pk1 => e.keep pk.at k1) fun d s1 v H1 k1 pk1 rd fin1 => ?_)
  have e1 := e.keep pk.at k1
  refine ho.run p σ H1 ρ s1 _ e1 pk1 (FinS.step fin1 (fun H2 s2 k2 pk2 => e1.keep pk1.at k2) fun x s2 vx H2 k2 pk2 rx fin2 => ?_)
  cases x <;> first
    | exact False.elim fin2
    | skip
  dsimp only at fin2
  split at fin2
  · rename_i hok
    simp only [Bool.and_eq_true, beq_iff_eq, Option.isNone_iff_eq_none, decide_eq_true_eq] at hok
    obtain ⟨⟨⟨⟨hn, hgn⟩, hlk⟩, hcd⟩, hlen⟩ := hok
    have hg : s2.ocls ≠ gro := by rw [hn]; simpa using hgn
    obtain ⟨a, c, dx, ea, rfl⟩ := rx
    obtain ⟨vs, h1, ⟨hl, hcl, hcc⟩, rs⟩ := pk2.2.1 a c dx ea
    subst hcc
    have ho : ∀ ns us, objO G s2.ocls dx ns us = .ins (G.cls s2.ocls) dx (ns.zip us) := fun _ _ => if_neg hg
    rw [ho] at h1
    have hz : ((s2.obj.map (·.1)).zip vs).lookup f = none := lookup_zip_none hlk
    have ha : p.out a := p.oko a _ dx ea
    refine ⟨a, _, dx, _, rfl, h1, by rw [hn]; exact hc, by rw [hn]; exact hna, by simp [hl] at hlen ⊢; omega, ?_⟩
    rw [putF_new hz]
    have hzz : (s2.obj.map (·.1)).zip vs ++ [(f, v)] = ((s2.obj ++ [(f, d)]).map (·.1)).zip (vs ++ [v]) := by
      rw [List.map_append, List.zip_append (by simpa using hl)]
      rfl
    rw [hzz]
    have kk : Keep p H2 (upd H2 a (.ins (G.cls s2.ocls) dx (((s2.obj ++ [(f, d)]).map (·.1)).zip (vs ++ [v])))) := fun b u nb eb => by
      rw [upd_ne (fun z => nb (.inr ⟨_, dx, by rw [z]; exact ea⟩))]; exact eb
    have rv : Rep G p H2 d v := rep_keep pk1.at k2 d v rd
    have pk3 : PenOk G p (upd H2 a (.ins (G.cls s2.ocls) dx (((s2.obj ++ [(f, d)]).map (·.1)).zip (vs ++ [v])))) { s2 with obj := s2.obj ++ [(f, d)] } := by
      refine ⟨fun b kd eb => ?_, fun x' c' dx' e' => ?_, fun b hb => ?_⟩
      · have hpen := pk2.1 b kd eb
        have hba : b ≠ a := Ne.symm (p.neo b kd _ _ _ eb ea)
        have hp2 : PenR p H2 b kd { s2 with obj := s2.obj ++ [(f, d)] } := hpen
        exact hp2.keep (upd_ne hba) fun c u hc eh => by rw [upd_ne (fun z => hc (by rw [z]; exact ha))]; exact eh
      · have e3 : (a, s2.ocls, dx) = (x', c', dx') := Option.some.inj (ea.symm.trans e')
        cases e3
        refine ⟨vs ++ [v], by rw [ho]; exact upd_same, ⟨by simp [hl], ?_, rfl⟩, ?_⟩
        · show clearL ((s2.obj ++ [(f, d)]).map (·.2)) = true
          rw [List.map_append, clearL_app, hcl]
          simp [clearL, hcd]
        · show RepL G.bare p _ ((s2.obj ++ [(f, d)]).map (·.2)) (vs ++ [v])
          rw [show (s2.obj ++ [(f, d)]).map (·.2) = s2.obj.map (·.2) ++ [d] by simp]
          exact repL_upd ha _ _ (repL_app (es := [d]) (us := [v]) rs ⟨v, [], rfl, rep_move (G := G) (G' := G.bare) rfl rfl (fun _ _ _ z => z) d v hcd rv, rfl⟩)
      · by_cases z : b = a
        · subst z; exact ⟨_, upd_same⟩
        · rw [upd_ne z]; exact pk2.2.2 b hb
    exact fin2 σ _ kk pk3 ((e1.keep pk1.at k2).keep pk2.at kk)
  · exact False.elim fin2

/-! ### C(..) -/
/-- the frame in which an object is made -/
def Fm.mk' (p : Fm) (x : Addr) (c : Nat) (dx : Addr) (hn : ∀ a k, p.pen = some (a, k) → x ≠ a) : Fm := ⟨p.pen, some (x, c, dx), fun b => p.out b ∨ b = x, fun b kd e => .inl (p.okp b kd e), fun y c' d' e => .inr (by cases e; rfl), fun a k y c' d' e1 e2 => by cases e2; exact hn a k e1⟩
def mkD (c : Nat) (m : List D → M D) : List D → M D := fun ds s => if (clearL ds && c != gro) = true then (match m (.self :: ds) { s with obj := [], ocls := c } with
  | .ok .non s' => .ok (.ins c (s'.obj.map (·.1)) (s'.obj.map (·.2))) { s' with obj := s.obj, ocls := s.ocls }
  | .exc c' ns xs s' => if clearL xs = true then .exc c' ns xs { s' with obj := s.obj, ocls := s.ocls } else .bad
  | _ => .bad) else .bad
/-- back from the making -/
theorem pen_back {p : Fm} {H1 H0 H' : Hp} {s s' : Pen} {x : Addr} {c : Nat} {dx : Addr} {hn : ∀ a k, p.pen = some (a, k) → x ≠ a} (pk : PenOk G p H1 s) (hx : H1 x = none) (h0 : ∀ a o, H1 a = some o → H0 a = some o) (k : Keep (p.mk' x c dx hn) H0 H') (pk' : PenOk G (p.mk' x c dx hn) H' s') :
    Keep p H1 H' ∧ PenOk G p H' { s' with obj := s.obj, ocls := s.ocls } := by
  have hk : ∀ a o, (∀ kd, p.pen ≠ some (a, kd)) → H1 a = some o → H' a = some o := fun a o n e => k a o (fun z => z.elim (fun ⟨kd, z⟩ => n kd z) fun ⟨c', d', z⟩ => by cases z; rw [hx] at e; cases e) (h0 a o e)
  have kp : Keep p H1 H' := fun a o n e => hk a o (fun kd z => n (.inl ⟨kd, z⟩)) e
  refine ⟨kp, fun a kd ea => ?_, fun y c' d' e => ?_, fun b hb => pk'.2.2 b (.inl hb)⟩
  · rcases pk'.1 a kd ea with ⟨e1, e2⟩ | ⟨e1, c0, z0, z1, z2⟩
    · exact .inl ⟨e1, e2⟩
    · exact .inr ⟨e1, c0, fun z => z0 (.inl z), z1, z2⟩
  · obtain ⟨vs, h1, hl, h2⟩ := pk.2.1 y c' d' e
    exact ⟨vs, hk y _ (fun kd z => p.neo y kd y c' d' z e rfl) h1, hl, repL_keep trivial kp _ _ h2⟩
theorem make_ok {p : Fm} {H1 : Hp} {s : Pen} {σ : L2.St} {x dx : Addr} {c n : Nat} {ds : List D} {vs : List V} {m : List D → M D} {Q : VK} (pk : PenOk G p H1 s) (rs : RepL G p H1 ds vs) (hl : ds.length = n) (hx : H1 x = none) (hd : H1 dx = none) (hne : dx ≠ x) (fin : FinG G W (RelE G) p σ H1 Q (mkD c m ds s)) :
    spM G (n + 1) m (.ref x :: vs) (upd (upd H1 dx (.own x)) x (.ins (G.cls c) dx [])) (fun v H2 => v = .non ∧ Q (.ref x) H2) (WE W σ) := by
  unfold mkD at fin
  by_cases hcn : ¬ (clearL ds && c != gro) = true
  · rw [if_neg hcn] at fin; exact False.elim fin
  have hc0 : (clearL ds && c != gro) = true := Decidable.not_not.mp hcn
  rw [if_pos hc0] at fin
  rw [Bool.and_eq_true] at hc0
  have hc := hc0.1
  have hg : c ≠ gro := by simpa using hc0.2
  have hn : ∀ a k, p.pen = some (a, k) → x ≠ a := fun a k ea z => by
    obtain ⟨o, eo⟩ := pk.2.2 a (p.okp a k ea)
    rw [← z, hx] at eo; cases eo
  have hx' : upd H1 dx (.own x) x = none := by rw [upd_ne (Ne.symm hne)]; exact hx
  have h0 : ∀ a o, H1 a = some o → upd (upd H1 dx (.own x)) x (.ins (G.cls c) dx []) a = some o := fun a o e => by rw [upd_ne (ne_of_none e hx), upd_ne (ne_of_none e hd)]; exact e
  have hw : ∀ a o, H1 a = some o → ¬ p.out a → ¬ (p.mk' x c dx hn).out a := fun a o e n z => z.elim n fun z => ne_of_none e hx z
  have rs0 : RepL G (p.mk' x c dx hn) (upd (upd H1 dx (.own x)) x (.ins (G.cls c) dx [])) ds vs := repL_keep trivial (fun a o _ e => h0 a o e) _ _ (repL_move (G := G) (G' := G) (p := p) (q := p.mk' x c dx hn) rfl rfl hw _ _ hc rs)
  have pk0 : PenOk G (p.mk' x c dx hn) (upd (upd H1 dx (.own x)) x (.ins (G.cls c) dx [])) { s with obj := [], ocls := c } := by
    refine ⟨fun a kd ea => ?_, fun y c' d' e => ?_, fun b hb => ?_⟩
    · rcases pk.1 a kd ea with ⟨e1, e2⟩ | ⟨e1, c0, z0, z1, z2⟩
      · exact .inl ⟨e1, h0 _ _ e2⟩
      · exact .inr ⟨e1, c0, hw _ _ z2 z0, h0 _ _ z1, h0 _ _ z2⟩
    · cases e
      exact ⟨[], by show _ = some (objO G c dx [] []); rw [show objO G c dx [] [] = .ins (G.cls c) dx [] from if_neg hg]; exact upd_same, ⟨rfl, rfl, rfl⟩, rfl⟩
    · rcases hb with hb | hb
      · obtain ⟨o, e⟩ := pk.2.2 b hb
        exact ⟨o, h0 b o e⟩
      · subst hb; exact ⟨_, upd_same⟩
  refine ⟨by rw [List.length_cons, ← repL_len rs, hl], p.mk' x c dx hn, .self :: ds, { s with obj := [], ocls := c }, ⟨.ref x, vs, rfl, ⟨x, c, dx, rfl, rfl⟩, rs0⟩, pk0, ?_⟩
  cases q : m (.self :: ds) { s with obj := [], ocls := c } with
  | bad => rw [q] at fin; exact False.elim fin
  | exc c' ns xs s' =>
    rw [q] at fin
    dsimp only at fin
    by_cases hxs : clearL xs = true
    · rw [if_pos hxs] at fin
      intro dd H' k pk' xk
      obtain ⟨kp, pkp⟩ := pen_back pk hx h0 k pk'
      refine fin dd H' kp pkp ?_
      obtain ⟨us, ru, xd⟩ := xk
      refine ⟨us, repL_move (G := G) (G' := G) (p := p.mk' x c dx hn) (q := p) rfl rfl (fun a o _ z y => z (.inl y)) _ _ hxs ru, ?_⟩
      rcases xd with xd | ⟨b, gs, e0, e1, e2, e3, e4⟩
      · exact .inl xd
      · exact .inr ⟨b, gs, e0, e1, fun z => e2 (.inl z), e3, e4⟩
    · rw [if_neg hxs] at fin; exact False.elim fin
  | ok d s' =>
    rw [q] at fin
    cases d <;> first
      | exact False.elim fin
      | skip
    intro v H' k pk' rv
    obtain ⟨kp, pkp⟩ := pen_back pk hx h0 k pk'
    obtain ⟨us, z1, ⟨zl, zc, _⟩, zr⟩ := pk'.2.1 x c dx rfl
    rw [show objO G c dx (s'.obj.map (·.1)) us = .ins (G.cls c) dx ((s'.obj.map (·.1)).zip us) from if_neg hg] at z1
    exact ⟨rv, fin _ H' kp pkp ⟨x, dx, us, rfl, pk.free hx, z1, by simpa using zl, repL_move (G := G.bare) (G' := G) (p := p.mk' x c dx hn) (q := p) rfl rfl (fun a o _ z y => z (.inl y)) _ _ zc zr⟩⟩
def tMakeS (C : Addr) (sp : Sp) (dvs : List V) (E : L2.St → XK) (t : TA) : TE := fun σ H Q => t σ H fun vs H1 => ∀ x dx, H1 x = none → H1 dx = none → dx ≠ x →
  sp (.ref x :: (vs ++ dvs)) (upd (upd H1 dx (.own x)) x (.ins C dx [])) (fun v H2 => v = .non ∧ Q (.ref x) H2) (E σ)
theorem pe_makeS {k : Nat} {C g : Addr} {fd : FuncData} {ps : List Str} {sp : Sp} {dvs : List V} {dl : List Value} {E : L2.St → XK} {x : Str} {p : Pos} {t : TA} (M : L2.Mk X.K C g) (F : FnOk X.prog X.w X.K X.mg X.base (L2.CX X.prog X.w) k g fd ps sp) (hr : Room (k + 1) X.A) (hg : Gl X x) (hm : X.mg x = some (.ref C)) (hb : L2.Binds X.K fd ps dl) (hd : Vals dvs dl) (hx : ∀ σ, PassesAt (L2.CX X.prog X.w) X σ (E σ))
    (ha : PA X (e :: es) t) (hdb : (x == ("__debug__" : Str)) = false := by decide) (he : starEach (e :: es) X.env = (false, eval e X.env) :: starEach es X.env := by rfl) (hpl : (backTo pos (starEach es X.env)).any (·.1) = false := by rfl) :
    PE X (.Call (.Name x p) (e :: es) [] pos) (tMakeS C sp dvs E t) := by
  refine ⟨fun pins s σ H Q I h => ?_⟩
  refine wpAny_Call_Name_kw (ld_glob I hg hm ?_ hdb)
  refine PySem.W.callWith_K (h₀ := X.base) I.ok.mod.kin M.kp (thn (ha.run pos pins s σ H _ I h) fun us s1 ⟨vs, H1, I1, r, q⟩ => ⟨I1.kIn, ?_⟩) he hpl
  have hq := q (s1.heap.objs.size + 1) s1.heap.objs.size (I1.hok.fresh (Nat.le_succ _)) (I1.hok.fresh (Nat.le_refl _)) (Nat.ne_of_lt (Nat.lt_succ_self _))
  have I2 := Inv.made (C := C) I1
  have r2 : Vals (V.ref (s1.heap.objs.size + 1) :: (vs ++ dvs)) (Value.ref (s1.heap.objs.size + 1) :: (us ++ dl)) := .cons rfl (r.append hd)
  have hl : (Value.ref (s1.heap.objs.size + 1) :: us ++ dl).length = ps.length := by
    have e := r2.length
    rw [F.len _ _ _ _ hq] at e
    exact e.symm
  refine wpAny_call (make_map (f := g) I1.kIn M.makes M.init (beq_iff_eq.mp M.fn) (codeAny_mono (F.run _ X.stack _ _ ⟨Value.ref (s1.heap.objs.size + 1) :: us, []⟩ (Value.ref (s1.heap.objs.size + 1) :: (us ++ dl)) _ _ (E σ) (hr.make C us [])
    (I2.env0.make C us []) (hb _ (Value.ref (s1.heap.objs.size + 1) :: us) I2.kIn hl) r2 hq) fun r s' hq' => ?_))
  cases r with
  | error er => exact hx σ pins _ _ er s' I2 hq'
  | ok fl =>
    cases fl with
    | ret u =>
      obtain ⟨v, H', I3, rv, ev, q3⟩ := I2.after hq'
      subst ev
      exact ⟨rv, ⟨V.ref (s1.heap.objs.size + 1), H', I3, rfl, q3⟩⟩
    | next => exact False.elim hq'
    | brk => exact False.elim hq'
    | cont => exact False.elim hq'
/-- what of a class is wanted to make one: its record, its __init__ -/
structure MkC (K : PySem.W.Frag) (mg : Str → Option Value) (x : Str) (C fI : Addr) (fd : FuncData) (ps : List Str) (dl : List Value) : Prop where
  made : L2.Mk K C fI
  m : mg x = some (.ref C)
  bd : L2.Binds K fd ps dl
theorem x_make {k n : Nat} {c : Nat} {g : Addr} {fd : FuncData} {ps : List Str} {dd : List D} {dvs : List V} {dl : List Value} {m : List D → M D} {x : Str} {p : Pos} (M : MkC X.K X.mg x (G.cls c) g fd ps dl) (F : FnOk X.prog X.w X.K X.mg X.base (L2.CX X.prog X.w) k g fd ps (spM G (n + 1) m)) (hr : Room (k + 1) X.A) (tk : Takes X W) (hd : Vals dvs dl) (hdd : ∀ p H, RepL G p H dd dvs)
    (ha : DA G X W (e :: es) tA fA) {j : Nat} (hl : LenA fA j) (hj : j + dd.length = n) (hg : Gl X x := by rfl) (hdb : (x == ("__debug__" : Str)) = false := by decide) (he : starEach (e :: es) X.env = (false, eval e X.env) :: starEach es X.env := by rfl) (hpl : (backTo pos (starEach es X.env)).any (·.1) = false := by rfl) :
    DE G X W (.Call (.Name x p) (e :: es) [] pos) (tMakeS (G.cls c) (spM G (n + 1) m) dvs (WE W) tA) (fun ρ => mbind (fA ρ) fun ds => mkD c m (ds ++ dd)) := by
  refine ⟨pe_makeS M.made F hr hg M.m M.bd hd (fun σ => passAt tk σ) ha.pa hdb he hpl, fun p σ H ρ s Q e pk fin => ?_⟩
  have fin' : FinG G W (RelE G) p σ H Q (obind (fA ρ s) fun ds => mkD c m (ds ++ dd)) := fin
  refine ha.run p σ H ρ s _ e pk ?_
  cases h : fA ρ s with
  | ok ds s1 =>
    rw [h] at fin'
    intro vs H1 k1 pk1 rs x dx hx hdx hne
    exact make_ok pk1 (repL_app rs (hdd p H1)) (by rw [List.length_append, hl ρ s ds s1 h]; exact hj) hx hdx hne (FinG.keep k1 fin')
  | exc c ns xs s1 => rw [h] at fin'; exact fin'
  | bad => rw [h] at fin'; exact fin'
end
end Tw

set_option Elab.async false
set_option linter.all false
set_option maxRecDepth 100000
set_option maxHeartbeats 4000000
set_option autoImplicit false
namespace Tw
open PySem L2 PySem.Spec PyProof.Rows
section
variable {K : PySem.W.Frag} {G : Gt} {W : WX} {X : Cx}
variable {a b c e o : Expr} {es : List Expr} {ta te to tv : TE} {fa fe fo fv : Loc → M D} {pos pos' apos : Pos} {tA : TA} {fA : Loc → M (List D)} {f m : Str}

/-! ### o.m(..) -/
def isI (n : Nat) (m : Str) : D → M Unit := fun d => match d with
  | .ins k ns _ => if (k == n && !ns.contains m) = true then mret () else mbad
  | _ => mbad
theorem lookup_zip_no {m : Str} : ∀ {ns : List Str} {vs : List V}, ns.contains m = false → (ns.zip vs).lookup m = none
  | [], vs, _ => by simp
  | n :: ns, [], _ => by simp
  | n :: ns, v :: vs, h => by
    simp only [List.contains_cons, Bool.or_eq_false_iff] at h
    simp only [List.zip_cons_cons, List.lookup, h.1]
    exact lookup_zip_no h.2
theorem isI_of {p : Fm} {H : Hp} {n : Nat} {m : Str} {d : D} {v : V} {s s' : Pen} {u : Unit} (h : isI n m d s = .ok u s') (r : Rep G p H d v) : s' = s ∧ ∃ a dx fs, v = .ref a ∧ ¬ p.out a ∧ H a = some (.ins (G.cls n) dx fs) ∧ fs.lookup m = none := by
  unfold isI at h
  cases d <;> first
    | (cases h; done)
    | skip
  rename_i k ns xs
  dsimp only at h
  split at h
  · rename_i hk
    rw [Bool.and_eq_true, Bool.not_eq_true'] at hk
    obtain ⟨hk1, hk2⟩ := hk
    obtain rfl : k = n := beq_iff_eq.mp hk1
    cases h
    obtain ⟨a, dx, vs, rfl, h0, h1, hl, rs⟩ := r
    exact ⟨rfl, a, dx, _, rfl, h0, h1, lookup_zip_no hk2⟩
  · cases h
theorem isI_not {n : Nat} {m : Str} {d : D} {s : Pen} : (∃ u s', isI n m d s = .ok u s') ∨ isI n m d s = .bad := by
  unfold isI
  cases d <;> try (exact .inr rfl)
  dsimp only
  split
  · exact .inl ⟨(), s, rfl⟩
  · exact .inr rfl
def tMethV (C : Addr) (m : Str) (sp : Sp) (dvs : List V) (E : L2.St → XK) (ta : TE) (t : TA) : TE := fun σ H Q => ta σ H fun x H1 => ∃ a dx fs, x = .ref a ∧ H1 a = some (.ins C dx fs) ∧ fs.lookup m = none ∧ t σ H1 fun vs H2 => sp (x :: (vs ++ dvs)) H2 Q (E σ)
section
variable {CX : CXT} {k : Nat} {C g : Addr} {fd : FuncData} {ps : List Str} {sp : Sp} {dvs : List V} {dl : List Value} {E : L2.St → XK} {t : TA} {pl : Sem Bool}
theorem pe_methV (he : PE X o ta) (c : L2.Cls X.K C) (hm : L2.Meth X.K C m g) (F : FnOk X.prog X.w X.K X.mg X.base CX k g fd ps sp) (hr : Room k X.A) (hb : L2.Binds X.K fd ps dl) (hd : Vals dvs dl) (hx : ∀ σ, PassesAt CX X σ (E σ)) (ha : PA X (e :: es) t)
    (hst : starEach (e :: es) X.env = (false, eval e X.env) :: starEach es X.env := by rfl) (hpl : (backTo pos (starEach es X.env)).any (·.1) = false := by rfl)
    (ht : eval (.Call (.Attribute o m apos) (e :: es) [] pos) X.env = (do
      let ov ← eval o X.env
      standAt apos.atName
      let (f, first) ← holding [ov] (getMethod ov m pl)
      callWith pos f first (backTo pos (starEach (e :: es) X.env)) (backToKw pos (keywordEach [] X.env))) := by rfl) :
    PE X (.Call (.Attribute o m apos) (e :: es) [] pos) (tMethV C m sp dvs E ta t) := by
  refine ⟨fun pins s σ H Q I h => ?_⟩
  refine PySem.W.methodCall_KW (pl := pl) (thn (he.run pins s σ H _ I h) fun u s1 ⟨x, H1, I1, rx, a, dx, fs, ex, ea, l, q⟩ => ?_) ht
  subst ex
  obtain rfl : u = Value.ref a := rx
  refine getmeth_ok I1 ea c hm l ?_
  refine PySem.W.callWith_K (first := [.ref a]) (h₀ := X.base) I.ok.mod.kin hm.kp (thn (ha.run pos pins s1 σ H1 _ I1 q) fun us s2 ⟨vs, H2, I2, r, q2⟩ => ⟨I2.kIn, ?_⟩) hst hpl
  exact run_fnSD (E := E) (us := .ref a :: us) (vs := .ref a :: vs) F hr hb hd (hx σ) I2 (.cons rfl r) q2
theorem pe_methV0 (he : PE X o ta) (c : L2.Cls X.K C) (hm : L2.Meth X.K C m g) (F : FnOk X.prog X.w X.K X.mg X.base CX k g fd ps sp) (hr : Room k X.A) (hb : L2.Binds X.K fd ps dl) (hd : Vals dvs dl) (hx : ∀ σ, PassesAt CX X σ (E σ))
    (ht : eval (.Call (.Attribute o m apos) [] [] pos) X.env = (do
      let ov ← eval o X.env
      standAt apos.atName
      let (f, first) ← holding [ov] (getMethod ov m pl)
      callWith pos f first (backTo pos (starEach [] X.env)) (backToKw pos (keywordEach [] X.env))) := by rfl) :
    PE X (.Call (.Attribute o m apos) [] [] pos) (tMethV C m sp dvs E ta tNil) := by
  refine ⟨fun pins s σ H Q I h => ?_⟩
  refine PySem.W.methodCall_KW (pl := pl) (thn (he.run pins s σ H _ I h) fun u s1 ⟨x, H1, I1, rx, a, dx, fs, ex, ea, l, q⟩ => ?_) ht
  subst ex
  obtain rfl : u = Value.ref a := rx
  refine getmeth_ok I1 ea c hm l ?_
  exact PySem.W.callWith_K0 (first := [.ref a]) I1.kIn hm.kp (run_fnSD (E := E) (us := [.ref a]) (vs := [.ref a]) F hr hb hd (hx σ) I1 (.cons rfl .nil) q)
end
/-- a method of an own class -/
structure Mtd (K : PySem.W.Frag) (C : Addr) (m : Str) (ps : List Str) (dl : List Value) (g : Addr) (fd : FuncData) : Prop where
  c : L2.Cls K C
  at_ : L2.Meth K C m g
  b : L2.Binds K fd ps dl
def kMeth (n : Nat) (m : Str) (md : List D → M D) (dd : List D) (fo : Loc → M D) (fA : Loc → M (List D)) : Loc → M D := fun ρ => mbind (fo ρ) fun d => mbind (isI n m d) fun _ => mbind (fA ρ) fun ds => md (d :: (ds ++ dd))
theorem run_meth {n j N : Nat} {md : List D → M D} {dd : List D} {dvs : List V} (hdd : ∀ p H, RepL G p H dd dvs) (ho : RunG G W (RelE G) to fo) (ha : RunG G W (RelA G) tA fA) (hl : LenA fA j) (hj : j + dd.length + 1 = N) :
    RunG G W (RelE G) (tMethV (G.cls n) m (spM G N md) dvs (WE W) to tA) (kMeth n m md dd fo fA) := by
  intro p σ H ρ s Q e pk fin
  refine ho p σ H ρ s _ e pk (FinG.step (RA := RelE G) fin fun d s1 v H1 k1 pk1 rd fin1 => ?_)
  have fin3 : FinG G W (RelE G) p σ H1 Q (obind (isI n m d s1) fun _ => mbind (fA ρ) fun ds => md (d :: (ds ++ dd))) := fin1
  rcases isI_not (n := n) (m := m) (d := d) (s := s1) with ⟨u, s2, h⟩ | h
  · rw [h] at fin3
    obtain ⟨rfl, x, dx, fs, rfl, hx0, hx, hlk⟩ := isI_of h rd
    refine ⟨x, dx, fs, rfl, hx, hlk, ?_⟩
    have fin2 : FinG G W (RelE G) p σ H1 Q (obind (fA ρ s2) fun ds => md (d :: (ds ++ dd))) := fin3
    refine ha p σ H1 ρ s2 _ (e.keep pk.at k1) pk1 ?_
    cases h2 : fA ρ s2 with
    | ok ds s3 =>
      rw [h2] at fin2
      intro vs H2 k2 pk2 rs
      have hlen : (ds ++ dd).length + 1 = N := by rw [List.length_append, hl ρ s2 ds s3 h2]; exact hj
      have rr : RepL G p H2 (ds ++ dd) (vs ++ dvs) := repL_app rs (hdd p H2)
      exact ⟨by rw [List.length_cons, ← repL_len rr]; exact hlen, p, d :: (ds ++ dd), s3, ⟨.ref x, vs ++ dvs, rfl, rep_keep pk1.at k2 d _ rd, rr⟩, pk2, (FinG.keep k2 fin2).wx fun _ _ _ z => z⟩
    | exc c ns xs s3 => rw [h2] at fin2; exact fin2
    | bad => rw [h2] at fin2; exact fin2
  · rw [h] at fin3; exact False.elim fin3
theorem x_meth {k n j N : Nat} {g : Addr} {fd : FuncData} {ps : List Str} {md : List D → M D} {dd : List D} {dvs : List V} {dl : List Value} (M : Mtd X.K (G.cls n) m ps dl g fd) (F : FnOk X.prog X.w X.K X.mg X.base (L2.CX X.prog X.w) k g fd ps (spM G N md)) (hr : Room k X.A) (tk : Takes X W) (hd : Vals dvs dl) (hdd : ∀ p H, RepL G p H dd dvs)
    (ho : DE G X W o to fo) (ha : DA G X W (e :: es) tA fA) (hl : LenA fA j) (hj : j + dd.length + 1 = N)
    (hst : starEach (e :: es) X.env = (false, eval e X.env) :: starEach es X.env := by rfl) (hpl : (backTo pos (starEach es X.env)).any (·.1) = false := by rfl) {pl : Sem Bool}
    (ht : eval (.Call (.Attribute o m apos) (e :: es) [] pos) X.env = (do
      let ov ← eval o X.env
      standAt apos.atName
      let (f, first) ← holding [ov] (getMethod ov m pl)
      callWith pos f first (backTo pos (starEach (e :: es) X.env)) (backToKw pos (keywordEach [] X.env))) := by rfl) :
    DE G X W (.Call (.Attribute o m apos) (e :: es) [] pos) (tMethV (G.cls n) m (spM G N md) dvs (WE W) to tA) (kMeth n m md dd fo fA) :=
  ⟨pe_methV ho.pe M.c M.at_ F hr M.b hd (fun σ => passAt tk σ) ha.pa hst hpl ht, run_meth hdd ho.run ha.run hl hj⟩
theorem x_meth0 {k n N : Nat} {g : Addr} {fd : FuncData} {ps : List Str} {md : List D → M D} {dd : List D} {dvs : List V} {dl : List Value} (M : Mtd X.K (G.cls n) m ps dl g fd) (F : FnOk X.prog X.w X.K X.mg X.base (L2.CX X.prog X.w) k g fd ps (spM G N md)) (hr : Room k X.A) (tk : Takes X W) (hd : Vals dvs dl) (hdd : ∀ p H, RepL G p H dd dvs)
    (ho : DE G X W o to fo) (hj : 0 + dd.length + 1 = N) {pl : Sem Bool}
    (ht : eval (.Call (.Attribute o m apos) [] [] pos) X.env = (do
      let ov ← eval o X.env
      standAt apos.atName
      let (f, first) ← holding [ov] (getMethod ov m pl)
      callWith pos f first (backTo pos (starEach [] X.env)) (backToKw pos (keywordEach [] X.env))) := by rfl) :
    DE G X W (.Call (.Attribute o m apos) [] [] pos) (tMethV (G.cls n) m (spM G N md) dvs (WE W) to tNil) (kMeth n m md dd fo aNil) :=
  ⟨pe_methV0 ho.pe M.c M.at_ F hr M.b hd (fun σ => passAt tk σ) ht, run_meth hdd ho.run (a_nil (X := X)).run l_nil hj⟩

/-! ### where nothing is let out -/
theorem FinG.calm {α β : Type} {W' : WX} {R : Fm → Hp → α → β → Prop} {p : Fm} {σ σ' : L2.St} {H : Hp} {s : Pen} {Q : β → Hp → Prop} {md : M α} (h : FinG G W R p σ H Q (nox md s)) : FinG G W' R p σ' H Q (md s) := by
  unfold nox at h
  cases q : md s with
  | ok a s1 => rw [q] at h; exact h
  | exc c ns xs s1 => rw [q] at h; exact False.elim h
  | bad => rw [q] at h; exact h
/-- a property of an own class -/
structure Prp (K : PySem.W.Frag) (C : Addr) (m : Str) (ps : List Str) (pr g : Addr) (fd : FuncData) : Prop where
  c : L2.Cls K C
  at_ : PropOf K C m pr g
  b : L2.Binds K fd ps []
def kProp (n : Nat) (m : Str) (md : List D → M D) (fo : Loc → M D) : Loc → M D := fun ρ => mbind (fo ρ) fun d => mbind (isI n m d) fun _ => nox (md [d])
theorem x_prop {k n : Nat} {pr g : Addr} {fd : FuncData} {ps : List Str} {md : List D → M D} (M : Prp X.K (G.cls n) m ps pr g fd) (F : FnOk X.prog X.w X.K X.mg X.base (L2.CX X.prog X.w) k g fd ps (spM G 1 md)) (hr : Room (k + 1) X.A) (ho : DE G X W o to fo)
    (hab : attributeBase o m X.env (eval o X.env) = eval o X.env := by rfl) : DE G X W (.Attribute o m pos) (tProp (G.cls n) (spM G 1 md) [] (fun _ _ _ => False) to) (kProp n m md fo) := by
  refine ⟨pe_prop ho.pe M.c M.at_ F hr M.b .nil passL hab, fun p σ H ρ s Q e pk fin => ?_⟩
  refine ho.run p σ H ρ s _ e pk (FinG.step (RA := RelE G) fin fun d s1 v H1 k1 pk1 rd fin1 => ?_)
  have fin3 : FinG G W (RelE G) p σ H1 Q (obind (isI n m d s1) fun _ => nox (md [d])) := fin1
  rcases isI_not (n := n) (m := m) (d := d) (s := s1) with ⟨u, s2, h⟩ | h
  · rw [h] at fin3
    obtain ⟨rfl, x, dx, fs, rfl, hx0, hx, hlk⟩ := isI_of h rd
    exact ⟨x, dx, fs, rfl, hx, rfl, p, [d], s2, ⟨.ref x, [], rfl, rd, rfl⟩, pk1, FinG.calm (md := md [d]) fin3⟩
  · rw [h] at fin3; exact False.elim fin3
/-- a classmethod of an own class, by the class's name -/
structure Cmt (K : PySem.W.Frag) (C : Addr) (m : Str) (ps : List Str) (dl : List Value) (mc : Value) (pr g : Addr) (fd : FuncData) : Prop where
  rd : ClX.CRead K C mc
  at_ : ClX.CMet K C mc m pr g
  b : L2.Binds K fd ps dl
def kCmt (c : Nat) (md : List D → M D) (dd : List D) (fo : Loc → M D) (fA : Loc → M (List D)) : Loc → M D := fun ρ => mbind (fo ρ) fun d => match d with
  | .cls k => if (k == c) = true then mbind (fA ρ) fun ds => nox (md (.cls c :: (ds ++ dd))) else mbad
  | _ => mbad
theorem x_cmt {k c j N : Nat} {mc : Value} {pr g : Addr} {fd : FuncData} {ps : List Str} {md : List D → M D} {dd : List D} {dvs : List V} {dl : List Value} (M : Cmt X.K (G.cls c) m ps dl mc pr g fd) (F : FnOk X.prog X.w X.K X.mg X.base (L2.CX X.prog X.w) k g fd ps (spM G N md)) (hr : Room k X.A) (hd : Vals dvs dl) (hdd : ∀ p H, RepL G p H dd dvs)
    (ho : DE G X W o to fo) (ha : DA G X W (e :: es) tA fA) (hl : LenA fA j) (hj : j + dd.length + 1 = N)
    (hst : starEach (e :: es) X.env = (false, eval e X.env) :: starEach es X.env := by rfl) (hpl : (backTo pos (starEach es X.env)).any (·.1) = false := by rfl) {pl : Sem Bool}
    (ht : eval (.Call (.Attribute o m apos) (e :: es) [] pos) X.env = (do
      let ov ← eval o X.env
      standAt apos.atName
      let (f, first) ← holding [ov] (getMethod ov m pl)
      callWith pos f first (backTo pos (starEach (e :: es) X.env)) (backToKw pos (keywordEach [] X.env))) := by rfl) :
    DE G X W (.Call (.Attribute o m apos) (e :: es) [] pos) (ClX.tCMeth (G.cls c) (fun vs H Q E => spM G N md (vs ++ dvs) H Q E) (fun _ _ _ => False) to tA) (kCmt c md dd fo fA) := by
  refine ⟨ClX.pe_cmeth ho.pe M.rd M.at_ (F.raw M.b hd) hr passL ha.pa hst hpl ht, fun p σ H ρ s Q e pk fin => ?_⟩
  refine ho.run p σ H ρ s _ e pk (FinG.step (RA := RelE G) fin fun d s1 v H1 k1 pk1 rd fin1 => ?_)
  cases d <;> try (exact False.elim fin1)
  rename_i kk
  dsimp only at fin1
  by_cases hk : (kk == c) = true
  · rw [if_pos hk] at fin1
    obtain rfl : kk = c := beq_iff_eq.mp hk
    refine ⟨rd, ?_⟩
    have fin2 : FinG G W (RelE G) p σ H1 Q (obind (fA ρ s1) fun ds => nox (md (.cls kk :: (ds ++ dd)))) := fin1
    refine ha.run p σ H1 ρ s1 _ (e.keep pk.at k1) pk1 ?_
    cases h2 : fA ρ s1 with
    | ok ds s3 =>
      rw [h2] at fin2
      intro vs H2 k2 pk2 rs
      have hlen : (ds ++ dd).length + 1 = N := by rw [List.length_append, hl ρ s1 ds s3 h2]; exact hj
      have rr : RepL G p H2 (ds ++ dd) (vs ++ dvs) := repL_app rs (hdd p H2)
      exact ⟨by rw [List.cons_append, List.length_cons, ← repL_len rr]; exact hlen, p, .cls kk :: (ds ++ dd), s3, ⟨.ref (G.cls kk), vs ++ dvs, rfl, rfl, rr⟩, pk2, FinG.calm (FinG.keep k2 fin2)⟩
    | exc c ns xs s3 => rw [h2] at fin2; exact fin2
    | bad => rw [h2] at fin2; exact fin2
  · rw [if_neg hk] at fin1; exact False.elim fin1
end
end Tw

set_option Elab.async false
set_option linter.all false
set_option maxRecDepth 100000
set_option maxHeartbeats 4000000
set_option autoImplicit false
namespace Tw
open PySem L2 PySem.Spec PyProof.Rows
/-! ### own operators -/
section
variable {prog : Program} {w : World} {A : Around} {E : Value → Shared → Prop} {s : Shared} {K : PySem.W.Frag} {x y C f : Addr} {ox oy : Obj} {od oe : Option Obj}
open PySem.W in
theorem bin_same {op : Operator} {Q : Value → Shared → Prop} (X : K.In s.heap) (I : PySem.W.InstAt s.heap x ox C od) (J : PySem.W.InstAt s.heap y oy C oe) (hc : selfFirst K C = true)
    (hs : findIn K (.ref C) (PySem.dunder op.info.2) = some (some (.ref f))) (hf : isFn K (.ref f) = true)
    (h : wpAny (model prog w) A (call (.ref f) [.ref x, .ref y]) (PySem.W.CmpBack Q) E s) : wpAny (model prog w) A (binaryOp op (.ref x) (.ref y)) Q E s := by
  obtain ⟨cd, rest, hcd, hm⟩ := ksp_first hc
  rcases hi : op.info with ⟨sym, nm'⟩
  rw [hi] at hs
  dsimp only at hs
  have one := ksp_try X I hs hf h
  obtain ⟨hh, g, d, tt, os⟩ := s
  have L1 : Looks (model prog w) hh (typeOf (.ref x)) (.ref C) := I.type
  have L2 : Looks (model prog w) hh (typeOf (.ref y)) (.ref C) := J.type
  have L3 : Looks (model prog w) hh (fillsNumberSlot (.ref C) nm') true := fills_K X hcd hm hs
  simp only [binaryOp, hi]
  refine wpAny_holding (wpAny_bind ?_)
  unfold binaryOp1
  refine wpAny_bind (L1.at (wpAny_bind (L2.at (wpAny_bind (L3.at ?_)))))
  simp only [beq_self_eq_true, if_true]
  ksp_lk
  refine wpAny_mono one (fun r s' hr' => ?_) fun _ _ e => e
  obtain ⟨v, rfl, hq⟩ := hr'
  ksp_lk
  exact hq
end
section
variable {K : PySem.W.Frag} {G : Gt} {W : WX} {X : Cx}
/-- what is handed back by a def is no NotImplemented -/
theorem back_of {pins : List (Addr × Obj)} {σ : L2.St} {Q : VK} {v : Value} {s : Shared} (h : EP X pins σ Q v s) : PySem.W.CmpBack (EP X pins σ Q) v s := by
  obtain ⟨u, H, I, r, q⟩ := h
  unfold PySem.W.CmpBack
  cases v <;> first
    | exact ⟨u, H, I, r, q⟩
    | (cases u <;> first
        | (cases r; done)
        | (obtain ⟨t, e⟩ := r; cases e; done))
/-- an own operator of a class -/
structure Opr (K : PySem.W.Frag) (C : Addr) (op : Operator) (g : Addr) (fd : FuncData) (ps : List Str) : Prop where
  first : PySem.W.selfFirst K C = true
  at_ : PySem.W.findIn K (.ref C) (PySem.dunder op.info.2) = some (some (.ref g))
  isf : PySem.W.isFn K (.ref g) = true
  b : L2.Binds K fd ps []
/-- .. its right hand a whole number -/
structure OprI (K : PySem.W.Frag) (C : Addr) (op : Operator) : Prop where
  r : PySem.W.findIn K (.ref C) (dunderR op.info.2) = some none
  h1 : ∃ fo, PySem.W.findIn K (.type "int") (PySem.dunder op.info.2) = some fo
  h2 : ∃ ro, PySem.W.findIn K (.type "int") (dunderR op.info.2) = some ro
  sub : PySem.W.subIn K (.type "int") (.ref C) = some false
def rOwn (C : Addr) (sp : Sp) : R2 := fun x y H Q => ∃ a dx fs b dy gs, x = .ref a ∧ y = .ref b ∧ H a = some (.ins C dx fs) ∧ H b = some (.ins C dy gs) ∧ sp [x, y] H Q (fun _ _ _ => False)
def rOwnI (C : Addr) (sp : Sp) : R2 := fun x y H Q => ∃ a dx fs i, x = .ref a ∧ y = .int i ∧ H a = some (.ins C dx fs) ∧ sp [x, y] H Q (fun _ _ _ => False)
def rNeg (C : Addr) (sp : Sp) : V → Hp → VK → Prop := fun x H Q => ∃ a dx fs, x = .ref a ∧ H a = some (.ins C dx fs) ∧ sp [x] H Q (fun _ _ _ => False)
variable {op : Operator} {C g : Addr} {qual : Str} {st : Stmt} {fd : FuncData} {ps : List Str} {k : Nat} {sp : Sp}
theorem inst_of {pins : List (Addr × Obj)} {σ : L2.St} {H : Hp} {s : Shared} {a dx : Addr} {fs : List (Str × V)} (I : Inv X pins σ H s) (ea : H a = some (.ins C dx fs)) : ∃ ox od, PySem.W.InstAt s.heap a ox C od := by
  obtain ⟨mA, O, _, _, _, _⟩ := ins_get I.hok ea
  obtain ⟨od, J, _⟩ := O.look
  exact ⟨_, _, J⟩
theorem op_own (M : Opr X.K C op g fd ps) (F : FnOk X.prog X.w X.K X.mg X.base (L2.CX X.prog X.w) k g fd ps sp) (hr : Room k X.A) : OpR X (binaryOp op) (rOwn C sp) := by
  intro pins s σ H x y v u Q I rx ry h
  obtain ⟨a, dx, fs, b, dy, gs, rfl, rfl, ha, hb, q⟩ := h
  obtain rfl : v = Value.ref a := rx
  obtain rfl : u = Value.ref b := ry
  obtain ⟨ox, od, J⟩ := inst_of I ha
  obtain ⟨oy, oe, J'⟩ := inst_of I hb
  exact bin_same I.kIn J J' M.first M.at_ M.isf (wpAny_mono (run_fn (us := [.ref a, .ref b]) (vs := [.ref a, .ref b]) (dvs := []) F hr M.b .nil passL I (.cons rfl (.cons rfl .nil)) q) (fun _ _ z => back_of z) fun _ _ z => z)
theorem op_ownI (M : Opr X.K C op g fd ps) (N : OprI X.K C op) (F : FnOk X.prog X.w X.K X.mg X.base (L2.CX X.prog X.w) k g fd ps sp) (hr : Room k X.A) : OpR X (binaryOp op) (rOwnI C sp) := by
  intro pins s σ H x y v u Q I rx ry h
  obtain ⟨a, dx, fs, i, rfl, rfl, ha, q⟩ := h
  obtain rfl : v = Value.ref a := rx
  obtain ⟨t, rfl⟩ := ry
  obtain ⟨ox, od, J⟩ := inst_of I ha
  obtain ⟨fo, h1⟩ := N.h1
  obtain ⟨ro, h2⟩ := N.h2
  obtain ⟨m, F0⟩ := I.fr
  exact PySem.W.ksp_binT (T := "int") F0 I.ok.mod.kin J rfl M.first M.at_ M.isf N.r (.inl rfl) h1 h2 N.sub (wpAny_mono (run_fn (us := [.ref a, .int i t]) (vs := [.ref a, .int i]) (dvs := []) F hr M.b .nil passL I (.cons rfl (.cons ⟨t, rfl⟩ .nil)) q) (fun _ _ z => back_of z) fun _ _ z => z)
/-- -e of an own class -/
structure Ong (K : PySem.W.Frag) (C : Addr) (g : Addr) (fd : FuncData) (ps : List Str) : Prop where
  at_ : PySem.W.findIn K (.ref C) "__neg__" = some (some (.ref g))
  isf : PySem.W.isFn K (.ref g) = true
  b : L2.Binds K fd ps []
theorem un_own (M : Ong X.K C g fd ps) (F : FnOk X.prog X.w X.K X.mg X.base (L2.CX X.prog X.w) k g fd ps sp) (hr : Room k X.A) : UnR X (unaryOp .USub) (rNeg C sp) := by
  intro pins s σ H x v Q I rx h
  obtain ⟨a, dx, fs, rfl, ha, q⟩ := h
  obtain rfl : v = Value.ref a := rx
  obtain ⟨ox, od, J⟩ := inst_of I ha
  obtain ⟨m, F0⟩ := I.fr
  exact PySem.W.ksp_neg F0 I.ok.mod.kin J M.at_ M.isf (run_fn (us := [.ref a]) (vs := [.ref a]) (dvs := []) F hr M.b .nil passL I (.cons rfl .nil) q)
/-! mirrors -/
def ownB (n : Nat) (md : List D → M D) : D → D → M D := fun x y => match x, y with
  | .ins k _ _, .ins j _ _ => if (k == n && j == n) = true then nox (md [x, y]) else mbad
  | _, _ => mbad
def ownI (n : Nat) (md : List D → M D) : D → D → M D := fun x y => match x, y with
  | .ins k _ _, .int _ => if (k == n) = true then nox (md [x, y]) else mbad
  | _, _ => mbad
def ownN (n : Nat) (md : List D → M D) : D → M D := fun x => match x with
  | .ins k _ _ => if (k == n) = true then nox (md [x]) else mbad
  | _ => mbad
variable {n : Nat} {md : List D → M D}
theorem prim_ownB : Prim2 G (rOwn (G.cls n) (spM G 2 md)) (ownB n md) := by
  intro W p σ H s x y vx vy Q pk rx ry fin
  unfold ownB at fin
  split at fin
  · split at fin
    · rename_i kx nx xs ky ny ys hk
      rw [Bool.and_eq_true] at hk
      obtain rfl : kx = n := beq_iff_eq.mp hk.1
      obtain rfl : ky = kx := beq_iff_eq.mp hk.2
      obtain ⟨a, dx, vs, rfl, a0, a1, al, as⟩ := id rx
      obtain ⟨b, dy, us, rfl, b0, b1, bl, bs⟩ := id ry
      exact ⟨a, dx, _, b, dy, _, rfl, rfl, a1, b1, rfl, p, [.ins _ nx xs, .ins _ ny ys], s, ⟨_, _, rfl, rx, _, _, rfl, ry, rfl⟩, pk, FinG.calm fin⟩
    · exact False.elim fin
  · exact False.elim fin
theorem prim_ownI : Prim2 G (rOwnI (G.cls n) (spM G 2 md)) (ownI n md) := by
  intro W p σ H s x y vx vy Q pk rx ry fin
  unfold ownI at fin
  split at fin
  · split at fin
    · rename_i kx nx xs i hk
      obtain rfl : kx = n := beq_iff_eq.mp hk
      obtain ⟨a, dx, vs, rfl, a0, a1, al, as⟩ := id rx
      obtain rfl : vy = .int i := ry
      exact ⟨a, dx, _, i, rfl, rfl, a1, rfl, p, [.ins _ nx xs, .int i], s, ⟨_, _, rfl, rx, _, _, rfl, rfl, rfl⟩, pk, FinG.calm fin⟩
    · exact False.elim fin
  · exact False.elim fin
theorem prim_ownN : Prim1 G (rNeg (G.cls n) (spM G 1 md)) (ownN n md) := by
  intro W p σ H s x vx Q pk rx fin
  unfold ownN at fin
  split at fin
  · split at fin
    · rename_i kx nx xs hk
      obtain rfl : kx = n := beq_iff_eq.mp hk
      obtain ⟨a, dx, vs, rfl, a0, a1, al, as⟩ := id rx
      exact ⟨a, dx, _, rfl, a1, rfl, p, [.ins _ nx xs], s, ⟨_, _, rfl, rx, rfl⟩, pk, FinG.calm fin⟩
    · exact False.elim fin
  · exact False.elim fin

/-! ### the bag's items -/
inductive Bx where
  | rest | seed | turn
def Bx.ix : Bx → Int
  | .rest => 0
  | .seed => 1
  | .turn => 2
def Pen.bget (s : Pen) : Bx → Int
  | .rest => s.rest
  | .seed => s.seed
  | .turn => s.turn
def Pen.bput (s : Pen) (f : Bx) (i : Int) : Pen := match f with
  | .rest => { s with rest := i }
  | .seed => { s with seed := i }
  | .turn => { s with turn := i }
def bagGet (fe : Loc → M D) (f : Bx) : Loc → M D := fun ρ => mbind (fe ρ) fun d => fun s => match d with
  | .bag => .ok (.int (s.bget f)) s
  | _ => .bad
variable {o e : Expr} {to te tv : TE} {fo fv : Loc → M D} {pos pos' pk' : Pos} {j : Nat} {value : Expr}
theorem de_bagGet (f : Bx) (hK : X.K = K) (ho : DE G X W o to fo) {i : Int} (hi : i = f.ix) : DE G X W (.Subscript o (.Constant (.int i) j pk') pos) (tOp (fun x y H Q => rIxL K x y H Q ∨ rIxT K x y H Q) to (tC (.int i))) (bagGet fo f) := by
  subst hi
  refine ⟨pe_ix (ix_any hK) ho.pe pe_int (fun _ _ => rfl), fun p σ H ρ s Q e pk fin => ?_⟩
  refine ho.run p σ H ρ s _ e pk (fin.step fun d s1 v H1 k1 pk1 rd fin1 => ?_)
  cases d <;> first
    | exact False.elim fin1
    | skip
  obtain ⟨a, ea, rfl⟩ := rd
  obtain ⟨-, h1⟩ := (pk1.1 a true ea).resolve_right fun z => nomatch z.1
  refine .inl ⟨a, _, _, _, rfl, rfl, SqL.of h1, ?_, fin1 _ H1 Keep.refl pk1 rfl⟩
  cases f <;> rfl
def bagPut (fo fv : Loc → M D) (f : Bx) : MS := fun ρ s => sof (fv ρ s) ρ fun d s1 => sof (fo ρ s1) ρ fun x s2 => match x, d with
  | .bag, .int i => .nx ρ (s2.bput f i)
  | _, _ => .bad
theorem ds_bagPut (f : Bx) (ho : DE G X W o to fo) (hv : DE G X W value tv fv) {i : Int} (hi : i = f.ix)
    (ha : ∀ v, assign (.Subscript o (.Constant (.int i) j pk') pos') X.env v = (do
      let ov ← holding [v] (eval o X.env)
      let iv ← holding [v, ov] (eval (.Constant (.int i) j pk') X.env)
      standAt pos'
      holding [v, ov, iv] (setItem ov iv v)
      release [v, ov, iv] []) := by intro _; rfl)
    (hs : swapsWithSole [.Subscript o (.Constant (.int i) j pk') pos'] value pos.line X.env = pure false := by rfl) (hw : swappedStores [.Subscript o (.Constant (.int i) j pk') pos'] value X.env = pure none := by rfl)
    (h1 : (assignEach [.Subscript o (.Constant (.int i) j pk') pos'] X.env).map (·.2) = [assign (.Subscript o (.Constant (.int i) j pk') pos') X.env] := by rfl) :
    DS G X W (.Assign [.Subscript o (.Constant (.int i) j pk') pos'] value pos) (tAsg tv (gSub to (tC (.int i)) rSetL)) (bagPut fo fv f) := by
  subst hi
  refine ⟨ps_asg hv.pe (pg_sub ho.pe pe_int set_list ha) hs hw h1, fun p σ H ρ s Z e pk fin => ?_⟩
  refine hv.run p σ H ρ s _ e pk (FinS.step fin (fun H1 s1 k1 pk1 => e.keep pk.at k1) fun d s1 v H1 k1 pk1 rd fin1 => ?_)
  have e1 := e.keep pk.at k1
  refine ho.run p σ H1 ρ s1 _ e1 pk1 (FinS.step fin1 (fun H2 s2 k2 pk2 => e1.keep pk1.at k2) fun x s2 vx H2 k2 pk2 rx fin2 => ?_)
  cases x <;> first
    | exact False.elim fin2
    | skip
  cases d <;> first
    | exact False.elim fin2
    | skip
  rename_i i
  obtain ⟨a, ea, rfl⟩ := rx
  obtain ⟨-, hb⟩ := (pk2.1 a true ea).resolve_right fun z => nomatch z.1
  obtain rfl : v = .int i := rd
  have hout : p.out a := p.okp a true ea
  refine ⟨a, _, _, (match f with | .rest => 0 | .seed => 1 | .turn => 2), rfl, rfl, hb, by cases f <;> rfl, ?_⟩
  have hset : ([V.int s2.rest, .int s2.seed, .int s2.turn].set (match f with | .rest => 0 | .seed => 1 | .turn => 2) (.int i)) = [.int (s2.bput f i).rest, .int (s2.bput f i).seed, .int (s2.bput f i).turn] := by cases f <;> rfl
  rw [hset]
  have kk : Keep p H2 (upd H2 a (.lst [.int (s2.bput f i).rest, .int (s2.bput f i).seed, .int (s2.bput f i).turn])) := fun b u nb eb => by
    rw [upd_ne (fun z => nb (.inl ⟨true, by rw [z]; exact ea⟩))]; exact eb
  have hobj : (s2.bput f i).obj = s2.obj ∧ (s2.bput f i).ocls = s2.ocls := by cases f <;> exact ⟨rfl, rfl⟩
  have pk3 : PenOk G p (upd H2 a (.lst [.int (s2.bput f i).rest, .int (s2.bput f i).seed, .int (s2.bput f i).turn])) (s2.bput f i) := by
    refine ⟨fun b kd eb => ?_, fun x c' dx e => ?_, fun b hb => ?_⟩
    · have eab : (a, true) = (b, kd) := Option.some.inj (ea.symm.trans eb)
      cases eab
      exact .inl ⟨rfl, upd_same⟩
    · obtain ⟨vs, h3, hl, h4⟩ := pk2.2.1 x c' dx e
      rw [hobj.1, hobj.2]
      exact ⟨vs, by rw [upd_ne (p.neo a true _ _ _ ea e)]; exact h3, hl, repL_upd hout _ _ h4⟩
    · by_cases z : b = a
      · subst z; exact ⟨_, upd_same⟩
      · rw [upd_ne z]; exact pk2.2.2 b hb
  exact fin2 σ _ kk pk3 ((e1.keep pk1.at k2).keep pk2.at kk)
end
end Tw

set_option Elab.async false
set_option linter.all false
set_option maxRecDepth 100000
set_option maxHeartbeats 4000000
set_option autoImplicit false
namespace Tw
open PySem L2 PySem.Spec PyProof.Rows
section
variable {K : PySem.W.Frag} {G : Gt} {W : WX} {X : Cx}
/-! ### a tree's type -/
def tyTag : D → Option (String ⊕ Nat)
  | .non => some (.inl "NoneType")
  | .bl _ => some (.inl "bool")
  | .int _ => some (.inl "int")
  | .str _ => some (.inl "str")
  | .lst _ => some (.inl "list")
  | .tup _ => some (.inl "tuple")
  | .ins n _ _ => some (.inr n)
  | _ => none
def tyV (G : Gt) : String ⊕ Nat → Value
  | .inl x => .type x
  | .inr n => .ref (G.cls n)
theorem ty_looks {p : Fm} {pins : List (Addr × Obj)} {σ : L2.St} {H : Hp} {s : Shared} {d : D} {v : V} {u : Value} {t : String ⊕ Nat} (I : Inv X pins σ H s) (r : Rep G p H d v) (rv : RelV v u) (h : tyTag d = some t) : PySem.W.Looks (model X.prog X.w) s.heap (typeOf u) (tyV G t) := by
  cases d <;> cases h
  · obtain rfl : v = .non := r
    obtain rfl : u = Value.none := rv
    exact PySem.W.Looks.of_pure rfl
  · rename_i b
    obtain rfl : v = .bl b := r
    obtain rfl : u = Value.bool b := rv
    exact PySem.W.Looks.of_pure rfl
  · rename_i i
    obtain rfl : v = .int i := r
    obtain ⟨t, rfl⟩ := rv
    exact PySem.W.Looks.of_pure rfl
  · rename_i x
    obtain rfl : v = .str x := r
    obtain ⟨t, rfl⟩ := rv
    exact PySem.W.Looks.of_pure rfl
  · obtain ⟨a, vs, rfl, h0, h1, rs⟩ := r
    obtain rfl : u = Value.ref a := rv
    obtain ⟨_, _, n, _, h2⟩ := (show ObjOk X.prog X.w H s.heap a (.lst vs) from I.hok a _ h1)
    exact fun A Q E s' k q => wpAny_typeOf_ref (k _ _ h2) q
  · obtain ⟨a, vs, rfl, h0, h1, rs⟩ := r
    obtain rfl : u = Value.ref a := rv
    obtain ⟨_, _, _, o, h2, h3, _⟩ := (show ObjOk X.prog X.w H s.heap a (.tup vs) from I.hok a _ h1)
    exact fun A Q E s' k q => wpAny_typeOf_ref (k _ _ h2) (by rw [h3]; exact q)
  · obtain ⟨a, dx, vs, rfl, h0, h1, hl, rs⟩ := r
    obtain rfl : u = Value.ref a := rv
    obtain ⟨ox, od, J⟩ := inst_of I h1
    exact J.type
/-! ### == of an own class -/
/-- an own == : its def; the types that do not come first -/
structure Oeq (K : PySem.W.Frag) (C : Addr) (g : Addr) (fd : FuncData) (ps : List Str) : Prop where
  at_ : PySem.W.findIn K (.ref C) "__eq__" = some (some (.ref g))
  isf : PySem.W.isFn K (.ref g) = true
  b : L2.Binds K fd ps []
def rOeq (G : Gt) (K : PySem.W.Frag) (C : Addr) (sp : Sp) : R2 := fun x y H Q => ∃ a dx fs p d t, x = .ref a ∧ H a = some (.ins C dx fs) ∧ Rep G p H d y ∧ tyTag d = some t ∧ PySem.W.notFirst K C (tyV G t) = true ∧ sp [x, y] H Q (fun _ _ _ => False)
variable {C g : Addr} {qual : Str} {st : Stmt} {fd : FuncData} {ps : List Str} {k n : Nat} {sp : Sp} {md : List D → M D}
theorem op_oeq (hK : X.K = K) (M : Oeq X.K C g fd ps) (F : FnOk X.prog X.w X.K X.mg X.base (L2.CX X.prog X.w) k g fd ps sp) (hr : Room k X.A) (hu : X.A.units < cLine) : OpR X (compareOp .Eq) (rOeq G K C sp) := by
  subst hK
  intro pins s σ H x y v u Q I rx ry h
  obtain ⟨a, dx, fs, p, d, t, rfl, ha, rd, ht, hn, q⟩ := h
  obtain rfl : v = Value.ref a := rx
  obtain ⟨ox, od, J⟩ := inst_of I ha
  obtain ⟨m, F0⟩ := I.fr
  show wpAny _ _ (richCompare .Eq (.ref a) u) _ _ _
  exact PySem.W.cmp_K hu F0 I.ok.mod.kin J (ty_looks I rd ry ht) hn M.at_ M.isf (wpAny_mono (run_fn (us := [.ref a, u]) (vs := [.ref a, y]) (dvs := []) F hr M.b .nil passL I (.cons rfl (.cons ry .nil)) q) (fun _ _ z => back_of z) fun _ _ z => z)
def oeqB (n : Nat) (ok : String ⊕ Nat → Bool) (md : List D → M D) : D → D → M D := fun x y => match x with
  | .ins k _ _ => (match tyTag y with
    | some t => if (k == n && ok t) = true then nox (md [x, y]) else mbad
    | none => mbad)
  | _ => mbad
theorem prim_oeq {ok : String ⊕ Nat → Bool} (hok : ∀ t, ok t = true → PySem.W.notFirst K (G.cls n) (tyV G t) = true) : Prim2 G (rOeq G K (G.cls n) (spM G 2 md)) (oeqB n ok md) := by
  intro W p σ H s x y vx vy Q pk rx ry fin
  unfold oeqB at fin
  cases x <;> first
    | exact False.elim fin
    | skip
  rename_i kx nx xs
  dsimp only at fin
  cases ht : tyTag y with
  | none => rw [ht] at fin; exact False.elim fin
  | some t =>
    rw [ht] at fin
    dsimp only at fin
    split at fin
    · rename_i hk
      rw [Bool.and_eq_true] at hk
      obtain rfl : kx = n := beq_iff_eq.mp hk.1
      obtain ⟨a, dx, vs, rfl, a0, a1, al, as⟩ := id rx
      exact ⟨a, dx, _, p, y, t, rfl, a1, ry, ht, hok t hk.2, rfl, p, [.ins _ nx xs, y], s, ⟨_, _, rfl, rx, _, _, rfl, ry, rfl⟩, pk, FinG.calm fin⟩
    · exact False.elim fin
/-! ### isinstance(x, C) -/
/-- what is asked of the classes whose instances are asked -/
structure Isc (K : PySem.W.Frag) (C : Addr) : Prop where
  c : L2.Cls K C
  h1 : PySem.W.findIn K (.ref C) "__class__" = some (some (.builtin "object.__class__"))
  h2 : PySem.W.specialIn K (.builtin "object.__class__") "__get__" = some (some (.builtin "getset_descriptor.__get__"))
  h3 : PySem.W.takesIn K (.builtin "object.__class__") = some true
  h4 : PySem.W.mroIn K C (.type "object") = some true
def isiO (ans : String ⊕ Nat → String ⊕ Nat → Option Bool) (ds : List D) : M D := match ds with
  | [x, .ty T] => (match tyTag x with
    | some t => (match ans t (.inl T) with
      | some b => mret (.bl b)
      | none => mbad)
    | none => mbad)
  | [x, .cls c] => (match tyTag x with
    | some t => (match ans t (.inr c) with
      | some b => mret (.bl b)
      | none => mbad)
    | none => mbad)
  | _ => mbad
/-- the answers; the classes of which instances are asked -/
structure IsA (G : Gt) (K : PySem.W.Frag) (ans : String ⊕ Nat → String ⊕ Nat → Option Bool) : Prop where
  ok : ∀ t c b, ans t c = some b → PySem.W.kitOne K (tyV G t) (tyV G c) = some b
  isc : ∀ n c b, ans (.inr n) c = some b → Isc K (G.cls n)
theorem tyx_of {ans : String ⊕ Nat → String ⊕ Nat → Option Bool} (A : IsA G K ans) {p : Fm} {H : Hp} {d : D} {v : V} {t c : String ⊕ Nat} {b : Bool} (r : Rep G p H d v) (h : tyTag d = some t) (ha : ans t c = some b) : TyX K H v (tyV G t) := by
  cases d <;> cases h
  · rw [(show v = _ from r)]; exact .base .non
  · rw [(show v = _ from r)]; exact .base (.bl _)
  · rw [(show v = _ from r)]; exact .base (.int _)
  · rw [(show v = _ from r)]; exact .base (.str _)
  · obtain ⟨a, us, rfl, h0, h1, q1⟩ := r; exact .base (.lst h1)
  · obtain ⟨a, us, rfl, h0, h1, q1⟩ := r; exact .base (.tup h1)
  · obtain ⟨a, dx, us, rfl, h0, h1, hl, q1⟩ := r
    have z := A.isc _ _ _ ha
    exact .base (.ins h1 z.c z.h1 z.h2 z.h3 z.h4)
theorem prim_isiO {ans : String ⊕ Nat → String ⊕ Nat → Option Bool} (A : IsA G K ans) : PrimL G (rIsi K) (isiO ans) := by
  intro W p σ H s xs vs Q pk rs fin
  unfold isiO at fin
  split at fin
  · rename_i x T
    obtain ⟨v, _, rfl, rx, w, _, rfl, ry, hz⟩ := rs
    obtain rfl := hz
    obtain rfl : w = .ty T := ry
    cases h : tyTag x with
    | none => rw [h] at fin; exact False.elim fin
    | some t =>
      rw [h] at fin
      dsimp only at fin
      cases ha : ans t (.inl T) with
      | none => rw [ha] at fin; exact False.elim fin
      | some b =>
        rw [ha] at fin
        exact ⟨v, .ty T, tyV G t, .type T, b, rfl, .ty T, tyx_of A rx h ha, A.ok _ _ _ ha, fin _ H Keep.refl pk rfl⟩
  · rename_i x c
    obtain ⟨v, _, rfl, rx, w, _, rfl, ry, hz⟩ := rs
    obtain rfl := hz
    obtain rfl : w = .ref (G.cls c) := ry
    cases h : tyTag x with
    | none => rw [h] at fin; exact False.elim fin
    | some t =>
      rw [h] at fin
      dsimp only at fin
      cases ha : ans t (.inr c) with
      | none => rw [ha] at fin; exact False.elim fin
      | some b =>
        rw [ha] at fin
        exact ⟨v, _, tyV G t, .ref (G.cls c), b, rfl, .own _, tyx_of A rx h ha, A.ok _ _ _ ha, fin _ H Keep.refl pk rfl⟩
  · exact False.elim fin
/-! ### while -/
variable {c : Expr} {body : List Stmt} {A1 : TT} {f1 : Loc → M Bool} {tb : TS} {mb : MS} {pos : Pos}
def swN (f1 : Loc → M Bool) (mb : MS) : Nat → MS
  | 0 => fun _ _ => .bad
  | n + 1 => fun ρ s => sof (f1 ρ s) ρ fun k s1 => if k = true then (match mb ρ s1 with
    | .nx ρ2 s2 => swN f1 mb n ρ2 s2
    | .ct ρ2 s2 => swN f1 mb n ρ2 s2
    | .bk ρ2 s2 => .nx ρ2 s2
    | .ret d s2 => .ret d s2
    | .exc c ns xs ρ2 s2 => .exc c ns xs ρ2 s2
    | .bad => .bad) else .nx ρ s1
open Classical in
/-- the loop's outcome, after as many turns as it takes -/
noncomputable def swhile (f1 : Loc → M Bool) (mb : MS) : MS := fun ρ s => if h : ∃ n, swN f1 mb n ρ s ≠ .bad then swN f1 mb (choose h) ρ s else .bad
theorem swN_up (n : Nat) : ∀ (ρ : Loc) (s : Pen), swN f1 mb n ρ s ≠ .bad → swN f1 mb (n + 1) ρ s = swN f1 mb n ρ s := by
  induction n with
  | zero => intro ρ s h; exact absurd rfl h
  | succ n ih =>
    intro ρ s h
    unfold swN at h ⊢
    unfold sof at h ⊢
    cases q : f1 ρ s with
    | bad => rfl
    | exc c ns xs s1 => rfl
    | ok k s1 =>
      rw [q] at h
      dsimp only at h ⊢
      cases k with
      | false => rfl
      | true =>
        rw [if_pos rfl] at h ⊢
        rw [if_pos rfl]
        cases q2 : mb ρ s1 with
        | nx ρ2 s2 => rw [q2] at h; exact ih ρ2 s2 h
        | ct ρ2 s2 => rw [q2] at h; exact ih ρ2 s2 h
        | bk ρ2 s2 => rfl
        | ret d s2 => rfl
        | exc c ns xs ρ2 s2 => rfl
        | bad => rfl
theorem swN_le {n m : Nat} (hnm : n ≤ m) {ρ : Loc} {s : Pen} (h : swN f1 mb n ρ s ≠ .bad) : swN f1 mb m ρ s = swN f1 mb n ρ s := by
  induction hnm with
  | refl => rfl
  | step _ ih => exact (swN_up _ ρ s (by rw [ih]; exact h)).trans ih
theorem swhile_eq {n : Nat} {ρ : Loc} {s : Pen} {o : OutS} (h : swN f1 mb n ρ s = o) (ho : o ≠ .bad) : swhile f1 mb ρ s = o := by
  unfold swhile
  have hx : ∃ n, swN f1 mb n ρ s ≠ .bad := ⟨n, by rw [h]; exact ho⟩
  rw [dif_pos hx]
  have h2 := Classical.choose_spec hx
  rcases Nat.le_total (Classical.choose hx) n with z | z
  · exact (swN_le z h2).symm.trans h
  · exact (swN_le z (by rw [h]; exact ho)).trans h
theorem run_while (hc : RunG G W RelB A1 f1) (hb : RunS G W tb mb) : RunS G W (tWhile A1 tb) (swhile f1 mb) := by
  intro p σ H ρ s Z e pk fin
  have hN : ∃ n, FinS G W p H Z (swN f1 mb n ρ s) := by
    unfold swhile at fin
    by_cases hx : ∃ n, swN f1 mb n ρ s ≠ .bad
    · rw [dif_pos hx] at fin; exact ⟨_, fin⟩
    · rw [dif_neg hx] at fin; exact False.elim fin
  obtain ⟨n, fin⟩ := hN
  refine ⟨fun m σ' H' => ∃ ρ' s', EnvOk G p H' σ' ρ' ∧ PenOk G p H' s' ∧ FinS G W p H' Z (swN f1 mb m ρ' s'), ⟨n, ρ, s, e, pk, fin⟩, ?_⟩
  rintro m σ' H' ⟨ρ', s', e', pk', fin'⟩
  cases m with
  | zero => exact False.elim fin'
  | succ m =>
    unfold swN at fin'
    refine hc p σ' H' ρ' s' _ e' pk' (FinS.step fin' (fun H1 s1 k1 pk1 => e'.keep pk'.at k1) fun x s1 b H1 k1 pk1 rx fin1 => ?_)
    obtain rfl : b = x := rx
    have e1 := e'.keep pk'.at k1
    cases b with
    | false =>
      rw [if_neg Bool.false_ne_true] at fin1 ⊢
      exact fin1 σ' H1 Keep.refl pk1 e1
    | true =>
      rw [if_pos rfl] at fin1 ⊢
      refine ⟨fun σ2 H2 => ∃ ρ2 s2, EnvOk G p H2 σ2 ρ2 ∧ PenOk G p H2 s2 ∧ FinS G W p H2 Z (swN f1 mb m ρ2 s2), fun σ2 H2 h => ⟨m, Nat.lt_succ_self m, h⟩, ?_⟩
      refine hb p σ' H1 ρ' s1 _ e1 pk1 ?_
      cases q : mb ρ' s1 with
      | nx ρ2 s2 => rw [q] at fin1; exact fun σ3 H3 k3 pk3 e3 => ⟨ρ2, s2, e3, pk3, FinS.keep k3 fin1⟩
      | ct ρ2 s2 => rw [q] at fin1; exact fun σ3 H3 k3 pk3 e3 => ⟨ρ2, s2, e3, pk3, FinS.keep k3 fin1⟩
      | bk ρ2 s2 => rw [q] at fin1; exact fin1
      | ret d s2 => rw [q] at fin1; exact fin1
      | exc c ns xs ρ2 s2 => rw [q] at fin1; exact fin1
      | bad => rw [q] at fin1; exact fin1
theorem ds_while (hp : PassesOwn (model X.prog X.w) X.A X.env X.xe) (hc : DT G X W c A1 f1) (hb : DSs G X W body tb mb) : DS G X W (.While c body [] pos) (tWhile A1 tb) (swhile f1 mb) := ⟨ps_while hp hc.pt hb.ps, run_while hc.run hb.run⟩
end
end Tw

set_option Elab.async false
set_option linter.all false
set_option maxRecDepth 100000
set_option maxHeartbeats 4000000
set_option autoImplicit false
namespace Tw
open PySem L2 PySem.Spec PyProof.Rows
section
variable {K : PySem.W.Frag} {G : Gt} {W : WX} {X : Cx}
variable {a b c e o : Expr} {es : List Expr} {ta te to tv : TE} {fa fe fo fv : Loc → M D} {pos pos' apos : Pos} {tA : TA} {fA : Loc → M (List D)} {f m : Str}
/-! ### cls(..) : a class called by a local name -/
def tMakeV (C : Addr) (sp : Sp) (dvs : List V) (E : L2.St → XK) (tn : TE) (t : TA) : TE := fun σ H Q => tn σ H fun v H0 => v = .ref C ∧ tMakeS C sp dvs E t σ H0 Q
theorem pe_makeV {k : Nat} {C g : Addr} {fd : FuncData} {ps : List Str} {sp : Sp} {dvs : List V} {dl : List Value} {E : L2.St → XK} {x : Str} {p : Pos} {t : TA} {tn : TE} (M : L2.Mk X.K C g) (F : FnOk X.prog X.w X.K X.mg X.base (L2.CX X.prog X.w) k g fd ps sp) (hr : Room (k + 1) X.A) (hn : PE X (.Name x p) tn) (hb : L2.Binds X.K fd ps dl) (hd : Vals dvs dl) (hx : ∀ σ, PassesAt (L2.CX X.prog X.w) X σ (E σ))
    (ha : PA X (e :: es) t) (he : starEach (e :: es) X.env = (false, eval e X.env) :: starEach es X.env := by rfl) (hpl : (backTo pos (starEach es X.env)).any (·.1) = false := by rfl) :
    PE X (.Call (.Name x p) (e :: es) [] pos) (tMakeV C sp dvs E tn t) := by
  refine ⟨fun pins s0 σ H0 Q I0 h => ?_⟩
  refine wpAny_Call_Name_kw (thn (hn.run pins s0 σ H0 _ I0 h) fun u0 s ⟨v0, H, I, rv0, ev0, h⟩ => ?_)
  subst ev0
  obtain rfl : u0 = Value.ref C := rv0
  refine PySem.W.callWith_K (h₀ := X.base) I.ok.mod.kin M.kp (thn (ha.run pos pins s σ H _ I h) fun us s1 ⟨vs, H1, I1, r, q⟩ => ⟨I1.kIn, ?_⟩) he hpl
  have hq := q (s1.heap.objs.size + 1) s1.heap.objs.size (I1.hok.fresh (Nat.le_succ _)) (I1.hok.fresh (Nat.le_refl _)) (Nat.ne_of_lt (Nat.lt_succ_self _))
  have I2 := Inv.made (C := C) I1
  have r2 : Vals (V.ref (s1.heap.objs.size + 1) :: (vs ++ dvs)) (Value.ref (s1.heap.objs.size + 1) :: (us ++ dl)) := .cons rfl (r.append hd)
  have hl : (Value.ref (s1.heap.objs.size + 1) :: us ++ dl).length = ps.length := by
    have e := r2.length
    rw [F.len _ _ _ _ hq] at e
    exact e.symm
  refine wpAny_call (make_map (f := g) I1.kIn M.makes M.init (beq_iff_eq.mp M.fn) (codeAny_mono (F.run _ X.stack _ _ ⟨Value.ref (s1.heap.objs.size + 1) :: us, []⟩ (Value.ref (s1.heap.objs.size + 1) :: (us ++ dl)) _ _ (E σ) (hr.make C us [])
    (I2.env0.make C us []) (hb _ (Value.ref (s1.heap.objs.size + 1) :: us) I2.kIn hl) r2 hq) fun r s' hq' => ?_))
  cases r with
  | error er => exact hx σ pins _ _ er s' I2 hq'
  | ok fl =>
    cases fl with
    | ret u =>
      obtain ⟨v, H', I3, rv, ev, q3⟩ := I2.after hq'
      subst ev
      exact ⟨rv, ⟨V.ref (s1.heap.objs.size + 1), H', I3, rfl, q3⟩⟩
    | next => exact False.elim hq'
    | brk => exact False.elim hq'
    | cont => exact False.elim hq'
def kMkV (c : Nat) (m : List D → M D) (dd : List D) (fn : Loc → M D) (fA : Loc → M (List D)) : Loc → M D := fun ρ => mbind (fn ρ) fun d => match d with
  | .cls k => if (k == c) = true then mbind (fA ρ) fun ds => mkD c m (ds ++ dd) else mbad
  | _ => mbad
theorem x_makeV {k n : Nat} {c : Nat} {g : Addr} {fd : FuncData} {ps : List Str} {dd : List D} {dvs : List V} {dl : List Value} {m : List D → M D} {x y : Str} {p : Pos} {tn : TE} {fn : Loc → M D} (M : MkC X.K X.mg y (G.cls c) g fd ps dl) (F : FnOk X.prog X.w X.K X.mg X.base (L2.CX X.prog X.w) k g fd ps (spM G (n + 1) m)) (hr : Room (k + 1) X.A) (tk : Takes X W) (hd : Vals dvs dl) (hdd : ∀ p H, RepL G p H dd dvs)
    (hn : DE G X W (.Name x p) tn fn) (ha : DA G X W (e :: es) tA fA) {j : Nat} (hl : LenA fA j) (hj : j + dd.length = n) (he : starEach (e :: es) X.env = (false, eval e X.env) :: starEach es X.env := by rfl) (hpl : (backTo pos (starEach es X.env)).any (·.1) = false := by rfl) :
    DE G X W (.Call (.Name x p) (e :: es) [] pos) (tMakeV (G.cls c) (spM G (n + 1) m) dvs (WE W) tn tA) (kMkV c m dd fn fA) := by
  refine ⟨pe_makeV M.made F hr hn.pe M.bd hd (fun σ => passAt tk σ) ha.pa he hpl, fun p σ H ρ s Q e pk fin => ?_⟩
  refine hn.run p σ H ρ s _ e pk (FinG.step (RA := RelE G) fin fun d s1 v H1 k1 pk1 rd fin1 => ?_)
  cases d <;> try (exact False.elim fin1)
  rename_i kk
  dsimp only at fin1
  by_cases hk : (kk == c) = true
  · rw [if_pos hk] at fin1
    obtain rfl : kk = c := beq_iff_eq.mp hk
    refine ⟨rd, ?_⟩
    have fin2 : FinG G W (RelE G) p σ H1 Q (obind (fA ρ s1) fun ds => mkD kk m (ds ++ dd)) := fin1
    refine ha.run p σ H1 ρ s1 _ (e.keep pk.at k1) pk1 ?_
    cases h : fA ρ s1 with
    | ok ds s2 =>
      rw [h] at fin2
      intro vs H2 k2 pk2 rs x dx hx hdx hne
      exact make_ok pk2 (repL_app rs (hdd p H2)) (by rw [List.length_append, hl ρ s1 ds s2 h]; exact hj) hx hdx hne (FinG.keep k2 fin2)
    | exc c ns xs s2 => rw [h] at fin2; exact fin2
    | bad => rw [h] at fin2; exact fin2
  · rw [if_neg hk] at fin1; exact False.elim fin1

/-! ### raise C(x) of an own error whose __init__ keeps one thing, or two -/
variable {P : Program} {w : World} {mg : Str → Option Value} {base : Heap}
def spX1 (C : Addr) (f : Str) : Sp := fun vs H Q _ => ∃ a v, vs = [.ref a, v] ∧ H a = some (exo a C none) ∧ ∀ dx, H dx = none → dx ≠ a → Q .non (upd (upd H dx (exd dx [(f, v)])) a (exo a C (some dx)))
theorem ok_x1 {qual : Str} {st : Stmt} {g C : Addr} {fd : FuncData} {pn : Str} {p1 p2 p3 pos : Pos} (F : Fun K "__init__" qual st g fd) (S : FnScope ["self", pn] ["self", pn] (defScope st)) (hb : defBody st = [.Assign [.Attribute (.Name "self" p1) f p2] (.Name pn p3) pos])
    (T : OexC K C) (hf : PySem.W.findIn K (.ref C) f = some none) (hd : (pn == ("__debug__" : Str)) = false := by decide) (hcd : (pn == ("__classdict__" : Str)) = false := by decide) : FnOk P w K mg base (L2.CX P w) 1 g fd ["self", pn] (spX1 C f) := by
  refine F.okX S (fun vs H Q E h => by obtain ⟨a, v, rfl, _⟩ := h; rfl) fun cdv A outer s H vs Q E hr h => ?_
  obtain ⟨a, v, rfl, ha, q⟩ := h
  have vis : ∀ y : Str, y ∈ ([("self" : Str), pn] : List Str) → Vis (defScope st) y := fun y hy => (S.par y hy).elim (fun z => .inl z) (fun z => .inr (.inl z))
  refine ⟨_, by rw [hb]; exact pss_one (ps_ost (pe_var (i := 0) rfl (vis "self" (by simp))) (pe_var (i := 1) rfl (vis pn (by simp)) hd hcd)), ?_⟩
  exact ⟨v, rfl, .ref a, rfl, a, C, rfl, T, hf, .inl ⟨ha, q⟩⟩
def spX2 (C : Addr) (f f' : Str) : Sp := fun vs H Q _ => ∃ a v u, vs = [.ref a, v, u] ∧ H a = some (exo a C none) ∧ ∀ dx, H dx = none → dx ≠ a → Q .non (upd (upd (upd H dx (exd dx [(f, v)])) a (exo a C (some dx))) dx (exd dx [(f', u), (f, v)]))
theorem ok_x2 {qual : Str} {st : Stmt} {g C : Addr} {fd : FuncData} {f' pn pn' : Str} {p1 p2 p3 p1' p2' p3' pos pos' : Pos} (F : Fun K "__init__" qual st g fd) (S : FnScope ["self", pn, pn'] ["self", pn, pn'] (defScope st))
    (hb : defBody st = [.Assign [.Attribute (.Name "self" p1) f p2] (.Name pn p3) pos, .Assign [.Attribute (.Name "self" p1') f' p2'] (.Name pn' p3') pos'])
    (T : OexC K C) (hf : PySem.W.findIn K (.ref C) f = some none) (hf' : PySem.W.findIn K (.ref C) f' = some none) (hd : (pn == ("__debug__" : Str)) = false := by decide) (hcd : (pn == ("__classdict__" : Str)) = false := by decide) (hd' : (pn' == ("__debug__" : Str)) = false := by decide) (hcd' : (pn' == ("__classdict__" : Str)) = false := by decide) :
    FnOk P w K mg base (L2.CX P w) 1 g fd ["self", pn, pn'] (spX2 C f f') := by
  refine F.okX S (fun vs H Q E h => by obtain ⟨a, v, u, rfl, _⟩ := h; rfl) fun cdv A outer s H vs Q E hr h => ?_
  obtain ⟨a, v, u, rfl, ha, q⟩ := h
  have vis : ∀ y : Str, y ∈ ([("self" : Str), pn, pn'] : List Str) → Vis (defScope st) y := fun y hy => (S.par y hy).elim (fun z => .inl z) (fun z => .inr (.inl z))
  refine ⟨_, by rw [hb]; exact pss_cons (ps_ost (pe_var (i := 0) rfl (vis "self" (by simp))) (pe_var (i := 1) rfl (vis pn (by simp)) hd hcd)) (pss_one (ps_ost (pe_var (i := 0) rfl (vis "self" (by simp))) (pe_var (i := 2) rfl (vis pn' (by simp)) hd' hcd'))), ?_⟩
  refine ⟨v, rfl, .ref a, rfl, a, C, rfl, T, hf, .inl ⟨ha, fun dx hdx hne => ?_⟩⟩
  exact ⟨u, rfl, .ref a, rfl, a, C, rfl, T, hf', .inr ⟨dx, [(f, v)], upd_same, by rw [upd_ne hne, upd_same], by simp, q dx hdx hne⟩⟩
/-- an own error whose __init__ takes arguments -/
structure ErrN (K : PySem.W.Frag) (mg : Str → Option Value) (x : Str) (C fI : Addr) (st : Stmt) (qual : Str) (fd : FuncData) (ps : List Str) : Prop where
  ox : OexC K C
  fi : PySem.W.findIn K (.ref C) "__init__" = some (some (.ref fI))
  ti : PySem.W.typeIn K (.ref fI) = some (.type "function")
  fn : Fun K "__init__" qual st fI fd
  bd : L2.Binds K fd ps []
  m : mg x = some (.ref C)
def zRaiseN (c : Nat) (ns : List Str) (fA : Loc → M (List D)) : MS := fun ρ s => sof (fA ρ s) ρ fun ds s' => if decide (ds.length = ns.length) = true then .exc c ns ds ρ s' else .bad
/-- the heap behind the making: all stands, the dict is new -/
theorem exc_heap {H1 : Hp} {a d : Addr} {o1 o2 o3 : HO} (ha : H1 a = none) (hd : upd H1 a o1 d = none) (hne : d ≠ a) {H2 : Hp} (h2 : ∀ b, b ≠ a → b ≠ d → H2 b = H1 b) : (∀ b o, H1 b = some o → upd (del H2 a) d o3 b = some o) ∧ H1 d = none := by
  have hd1 : H1 d = none := by rw [upd_ne hne] at hd; exact hd
  refine ⟨fun b o e => ?_, hd1⟩
  have n1 : b ≠ a := ne_of_none e ha
  have n2 : b ≠ d := ne_of_none e hd1
  rw [upd_ne n2, del_ne n1, h2 b n1 n2]
  exact e
theorem z_raise1 {cn : Nat} {x : Str} {fI : Addr} {stI : Stmt} {qual : Str} {fd : FuncData} {pn : Str} {p0 : Pos} (hc : X.calm = true) (tk : Takes X W) (E : ErrN X.K X.mg x (G.cls cn) fI stI qual fd ["self", pn])
    (F : FnOk X.prog X.w X.K X.mg X.base (L2.CX X.prog X.w) 1 fI fd ["self", pn] (spX1 (G.cls cn) f)) (hr : Room 2 X.A) (ha : DA G X W [e] tA fA) (hl : LenA fA 1) (hg : Gl X x := by rfl) (hdb : (x == ("__debug__" : Str)) = false := by decide) (he : starEach [e] X.env = [(false, eval e X.env)] := by rfl) (hpl : (backTo pos' (starEach [] X.env)).any (·.1) = false := by rfl) :
    DS G X W (.Raise (some (.Call (.Name x p0) [e] [] pos')) none pos) (fun _ σ H => tMkO (G.cls cn) (spX1 (G.cls cn) f) [] tA σ H (fun cls d H' => W cls d σ H')) (zRaiseN cn [f] fA) := by
  refine ⟨ps_raise hc tk (pmk_oex E.ox E.fi E.ti F hr E.bd .nil passL hg E.m ha.pa hdb he hpl), fun p σ H ρ s Z e pk fin => ?_⟩
  refine ha.run p σ H ρ s _ e pk (FinS.step fin (fun H1 s1 k1 pk1 => e.keep pk.at k1) fun ds s1 vs H1 k1 pk1 rs fin1 => ?_)
  by_cases hdn : ¬ ds.length = [f].length
  · rw [if_neg (by simpa using hdn)] at fin1
    exact False.elim fin1
  have hds0 : ds.length = [f].length := Decidable.not_not.mp hdn
  rw [if_pos (decide_eq_true hds0)] at fin1
  have hds : ds.length = 1 := hds0
  match ds, hds, rs, fin1 with
  | [d0], _, rs, fin1 =>
    obtain ⟨v, _, rfl, rv, hz⟩ := rs
    obtain rfl := hz
    refine ⟨by simp, fun a hna => ⟨a, v, rfl, upd_same, fun dx hdx hne => ?_⟩⟩
    obtain ⟨hk, hd1⟩ := exc_heap (H1 := H1) (a := a) (d := dx) (o1 := exo a (G.cls cn) none) (o2 := exo a (G.cls cn) none) (o3 := .xd [(f, v)]) hna hdx hne (H2 := upd (upd (upd H1 a (exo a (G.cls cn) none)) dx (exd dx [(f, v)])) a (exo a (G.cls cn) (some dx))) (fun b n1 n2 => by rw [upd_ne n1, upd_ne n2, upd_ne n1])
    refine ⟨rfl, dx, [(f, v)], upd_same, by rw [upd_ne hne, upd_same], hd1, ?_⟩
    have kp : Keep p H1 (upd (del (upd (upd (upd H1 a (exo a (G.cls cn) none)) dx (exd dx [(f, v)])) a (exo a (G.cls cn) (some dx))) a) dx (.xd [(f, v)])) := fun b o _ h => hk b o h
    refine fin1 (some dx) σ _ kp (pk1.mono hk) ((e.keep pk.at k1).keep pk1.at kp) ⟨[v], ⟨v, [], rfl, rep_keep pk1.at kp _ _ rv, rfl⟩, .inr ⟨dx, _, by simp, rfl, pk1.free hd1, upd_same, fun i f' v' h1 h2 => ?_⟩⟩
    match i, h1, h2 with
    | 0, h1, h2 =>
      cases h1; cases h2
      simp [List.lookup]
theorem z_raise2 {cn : Nat} {x : Str} {fI : Addr} {stI : Stmt} {qual : Str} {fd : FuncData} {f' pn pn' : Str} {p0 : Pos} {e2 : Expr} (hc : X.calm = true) (tk : Takes X W) (E : ErrN X.K X.mg x (G.cls cn) fI stI qual fd ["self", pn, pn'])
    (F : FnOk X.prog X.w X.K X.mg X.base (L2.CX X.prog X.w) 1 fI fd ["self", pn, pn'] (spX2 (G.cls cn) f f')) (hr : Room 2 X.A) (ha : DA G X W [e, e2] tA fA) (hl : LenA fA 2) (hg : Gl X x := by rfl) (hdb : (x == ("__debug__" : Str)) = false := by decide) (hff : f ≠ f') (he : starEach [e, e2] X.env = (false, eval e X.env) :: starEach [e2] X.env := by rfl) (hpl : (backTo pos' (starEach [e2] X.env)).any (·.1) = false := by rfl) :
    DS G X W (.Raise (some (.Call (.Name x p0) [e, e2] [] pos')) none pos) (fun _ σ H => tMkO (G.cls cn) (spX2 (G.cls cn) f f') [] tA σ H (fun cls d H' => W cls d σ H')) (zRaiseN cn [f, f'] fA) := by
  refine ⟨ps_raise hc tk (pmk_oex E.ox E.fi E.ti F hr E.bd .nil passL hg E.m ha.pa hdb he hpl), fun p σ H ρ s Z e pk fin => ?_⟩
  refine ha.run p σ H ρ s _ e pk (FinS.step fin (fun H1 s1 k1 pk1 => e.keep pk.at k1) fun ds s1 vs H1 k1 pk1 rs fin1 => ?_)
  by_cases hdn : ¬ ds.length = [f, f'].length
  · rw [if_neg (by simpa using hdn)] at fin1
    exact False.elim fin1
  have hds0 : ds.length = [f, f'].length := Decidable.not_not.mp hdn
  rw [if_pos (decide_eq_true hds0)] at fin1
  have hds : ds.length = 2 := hds0
  match ds, hds, rs, fin1 with
  | [d0, d1], _, rs, fin1 =>
    obtain ⟨v, _, rfl, rv, u, _, rfl, ru, hz⟩ := rs
    obtain rfl := hz
    refine ⟨by simp, fun a hna => ⟨a, v, u, rfl, upd_same, fun dx hdx hne => ?_⟩⟩
    obtain ⟨hk, hd1⟩ := exc_heap (H1 := H1) (a := a) (d := dx) (o1 := exo a (G.cls cn) none) (o2 := exo a (G.cls cn) none) (o3 := .xd [(f', u), (f, v)]) hna hdx hne (H2 := upd (upd (upd (upd H1 a (exo a (G.cls cn) none)) dx (exd dx [(f, v)])) a (exo a (G.cls cn) (some dx))) dx (exd dx [(f', u), (f, v)])) (fun b n1 n2 => by rw [upd_ne n2, upd_ne n1, upd_ne n2, upd_ne n1])
    refine ⟨rfl, dx, [(f', u), (f, v)], by rw [upd_ne (Ne.symm hne), upd_same], upd_same, hd1, ?_⟩
    have kp : Keep p H1 (upd (del (upd (upd (upd (upd H1 a (exo a (G.cls cn) none)) dx (exd dx [(f, v)])) a (exo a (G.cls cn) (some dx))) dx (exd dx [(f', u), (f, v)])) a) dx (.xd [(f', u), (f, v)])) := fun b o _ h => hk b o h
    refine fin1 (some dx) σ _ kp (pk1.mono hk) ((e.keep pk.at k1).keep pk1.at kp) ⟨[v, u], ⟨v, [u], rfl, rep_keep pk1.at kp _ _ rv, u, [], rfl, rep_keep pk1.at kp _ _ ru, rfl⟩, .inr ⟨dx, _, by simp, rfl, pk1.free hd1, upd_same, fun i g' v' h1 h2 => ?_⟩⟩
    match i, h1, h2 with
    | 0, h1, h2 =>
      cases h1; cases h2
      have : (f == f') = false := by simpa using hff
      simp [List.lookup, this]
    | 1, h1, h2 =>
      cases h1; cases h2
      simp [List.lookup]
end
end Tw

set_option Elab.async false
set_option linter.all false
set_option maxRecDepth 100000
set_option maxHeartbeats 4000000
set_option autoImplicit false
namespace Tw
open PySem L2 PySem.Spec PyProof.Rows
section
variable {K : PySem.W.Frag} {G : Gt} {W : WX} {X : Cx}
variable {a b c e o i : Expr} {es : List Expr} {ta te to tv ti : TE} {fa fe fo fv fi : Loc → M D} {pos pos' apos : Pos} {tA : TA} {fA : Loc → M (List D)} {f m : Str}
/-! ### x = [..]; x[i] = e : a list that nobody else holds -/
def sLset (n : Nat) (fA : Loc → M (List D)) (fi fv : Loc → M D) : MS := fun ρ s => sof (fA ρ s) ρ fun ds s1 => if (decide (ds.length ≤ 100000) && decide (n < ρ.length)) = true then
    sof (nox (fv (ρ.set n none)) s1) ρ fun d s2 => sof (nox (fi (ρ.set n none)) s2) ρ fun k s3 => (match k with
      | .int k => (match ixN ds.length k with
        | some j => .nx (ρ.set n (some (.lst (ds.set j d)))) s3
        | none => .bad)
      | _ => .bad)
  else .bad
theorem FinS.calm {α β : Type} {R : Fm → Hp → α → β → Prop} {p q : Fm} {σ : L2.St} {H Hq : Hp} {ρ : Loc} {Z : Ends} {mm : M α} {s : Pen} {k : α → Pen → OutS} {Q : β → Hp → Prop} (fin : FinS G W p H Z (sof (nox mm s) ρ k))
    (hb : ∀ a s1 b H1, Keep q Hq H1 → PenOk G q H1 s1 → R q H1 a b → FinS G W p H Z (k a s1) → Q b H1) : FinG G W R q σ Hq Q (mm s) := by
  unfold nox at fin
  cases h : mm s with
  | ok a s1 => rw [h] at fin; exact fun b H1 k1 pk1 r => hb a s1 b H1 k1 pk1 r fin
  | exc c ns xs s1 => rw [h] at fin; exact False.elim fin
  | bad => rw [h] at fin; exact False.elim fin
theorem EnvOk.hide {p : Fm} {H : Hp} {σ : L2.St} {ρ : Loc} {n : Nat} {v : V} (e : EnvOk G p H σ ρ) : EnvOk G p H (σ.set n (some v)) (ρ.set n none) := by
  refine ⟨by simp [e.1], fun j x hx => ?_⟩
  rw [List.getElem?_set] at hx
  by_cases hij : n = j
  · subst hij
    simp only [if_true] at hx
    split at hx <;> cases hx
  · rw [if_neg hij] at hx
    obtain ⟨u, h1, h2⟩ := e.2 j x hx
    exact ⟨u, by rw [List.getElem?_set, if_neg hij]; exact h1, h2⟩
theorem repL_set {p : Fm} {H : Hp} : ∀ {ds : List D} {vs : List V} {j : Nat} {d : D} {v : V}, RepL G p H ds vs → Rep G p H d v → RepL G p H (ds.set j d) (vs.set j v)
  | [], vs, j, d, v, q, _ => by rw [(show vs = [] from q)]; rfl
  | x :: ds, vs, 0, d, v, q, r => by
    obtain ⟨u, us, rfl, _, q2⟩ := q
    exact ⟨v, us, rfl, r, q2⟩
  | x :: ds, vs, j + 1, d, v, q, r => by
    obtain ⟨u, us, rfl, q1, q2⟩ := q
    exact ⟨u, us.set j v, rfl, q1, repL_set q2 r⟩
theorem run_lset {n : Nat} (ha : RunG G W (RelA G) tA fA) (hi : RunG G W (RelE G) ti fi) (hv : RunG G W (RelE G) tv fv) :
    RunS G W (tSeq (tAsg (tLst tA) (gName n)) (tAsg tv (gSub (tVar n) ti rSetL))) (sLset n fA fi fv) := by
  intro p σ H ρ s Z e pk fin
  refine ha p σ H ρ s _ e pk (FinS.step fin (fun H1 s1 k1 pk1 => e.keep pk.at k1) fun ds s1 vs H1 k1 pk1 rs fin1 => ?_)
  by_cases hln : ¬ (decide (ds.length ≤ 100000) && decide (n < ρ.length)) = true
  · rw [if_neg hln] at fin1; exact False.elim fin1
  have hln' : (decide (ds.length ≤ 100000) && decide (n < ρ.length)) = true := Decidable.not_not.mp hln
  rw [if_pos hln'] at fin1
  rw [Bool.and_eq_true] at hln'
  have hl : ds.length ≤ 100000 := of_decide_eq_true hln'.1
  have hn : n < σ.length := by rw [e.1]; exact of_decide_eq_true hln'.2
  refine ⟨by rw [← repL_len rs]; exact Nat.le_trans hl (by decide), fun L hL => ?_⟩
  have wd : Wider p (p.add L) H1 := wider_add hL
  have hnm : ¬ (p.add L).mut L := pk1.nomut hL
  have ho : (p.add L).out L := .inr rfl
  have e1 : EnvOk G (p.add L) (upd H1 L (.lst vs)) (σ.set n (some (.ref L))) (ρ.set n none) := (((e.keep pk.at k1).out wd).keep trivial (Keep.new hL)).hide
  have rs1 : RepL G (p.add L) (upd H1 L (.lst vs)) ds vs := repL_keep trivial (Keep.new hL) _ _ (repL_out wd.1 wd.2.1 wd.2.2 _ _ rs)
  refine hv (p.add L) _ _ (ρ.set n none) s1 _ e1 (pk1.add hL) (FinS.calm (q := p.add L) fin1 fun d s2 v H2 k2 pk2 rd fin2 => ?_)
  have hL2 : H2 L = some (.lst vs) := k2 _ _ hnm upd_same
  have e2 := e1.keep trivial k2
  refine ⟨.ref L, by rw [List.getElem?_set]; simp [hn], ?_⟩
  refine hi (p.add L) _ _ (ρ.set n none) s2 _ e2 pk2 (FinS.calm (q := p.add L) fin2 fun kd s3 kv H3 k3 pk3 rk fin3 => ?_)
  cases kd <;> first
    | exact False.elim fin3
    | skip
  rename_i k
  obtain rfl : kv = .int k := rk
  dsimp only at fin3
  cases hj : ixN ds.length k with
  | none => rw [hj] at fin3; exact False.elim fin3
  | some j =>
    rw [hj] at fin3
    have hL3 : H3 L = some (.lst vs) := k3 _ _ hnm hL2
    refine ⟨L, vs, k, j, rfl, rfl, hL3, by rw [← repL_len rs]; exact hj, ?_⟩
    have rs3 : RepL G (p.add L) H3 ds vs := repL_keep trivial (k2.trans k3) _ _ rs1
    have rd3 : Rep G (p.add L) H3 d v := rep_keep trivial k3 _ _ rd
    have back : ∀ a o, (upd H3 L (.lst (vs.set j v))) a = some o → ¬ (p.add L).out a → ¬ p.out a := fun a o _ h z => h (.inl z)
    have rs4 : RepL G p (upd H3 L (.lst (vs.set j v))) (ds.set j d) (vs.set j v) := repL_out (p := p.add L) (q := p) rfl rfl back _ _ (repL_upd ho _ _ (repL_set rs3 rd3))
    have e4 : EnvOk G p (upd H3 L (.lst (vs.set j v))) (σ.set n (some (.ref L))) (ρ.set n none) := ((e2.keep trivial k3).upd ho).out ⟨rfl, rfl, back⟩
    have e5 := e4.set (i := n) (d := .lst (ds.set j d)) (v := .ref L) ⟨L, _, rfl, pk1.free hL, upd_same, rs4⟩
    rw [List.set_set, List.set_set] at e5
    have kk : Keep p H1 (upd H3 L (.lst (vs.set j v))) := fun a o nm h => by
      rw [upd_ne (ne_of_none h hL)]
      exact k3 a o nm (k2 a o nm (by rw [upd_ne (ne_of_none h hL)]; exact h))
    exact fin3 _ _ kk (pk3.upd ho hnm).sub e5
theorem dss_lset {n : Nat} {x : Str} {rest : List Stmt} {t : TS} {mr : MS} {px px' p1 p2 : Pos} (hN : X.N.Nodup) (hx : X.N[n]? = some x) (hs1 : DS G X W (.Assign [.Name x px] (.List es pos) p1) (tAsg (tLst tA) (gName n)) (sasg (fun ρ => mbind (fA ρ) lstD) (gnm n))) (ha : DA G X W es tA fA)
    (hnm : PE X (.Name x px') (tVar n)) (hi : DE G X W i ti fi) (hv : DE G X W e tv fv) (hr : DSs G X W rest t mr)
    (has : ∀ v, assign (.Subscript (.Name x px') i pos') X.env v = (do
      let ov ← holding [v] (eval (.Name x px') X.env)
      let iv ← holding [v, ov] (eval i X.env)
      standAt pos'
      holding [v, ov, iv] (setItem ov iv v)
      release [v, ov, iv] []) := by intro _; rfl)
    (hs : swapsWithSole [.Subscript (.Name x px') i pos'] e p2.line X.env = pure false := by rfl) (hw : swappedStores [.Subscript (.Name x px') i pos'] e X.env = pure none := by rfl)
    (h1 : (assignEach [.Subscript (.Name x px') i pos'] X.env).map (·.2) = [assign (.Subscript (.Name x px') i pos') X.env] := by rfl) :
    DSs G X W (.Assign [.Name x px] (.List es pos) p1 :: .Assign [.Subscript (.Name x px') i pos'] e p2 :: rest) (tSeq (tAsg (tLst tA) (gName n)) (tSeq (tAsg tv (gSub (tVar n) ti rSetL)) t)) (sseq (sLset n fA fi fv) mr) := by
  refine ⟨pss_cons hs1.ps (pss_cons (ps_asg hv.pe (pg_sub hnm hi.pe set_list has) hs hw h1) hr.ps), ?_⟩
  intro p σ H ρ s Z en pk fin
  have z := run_seq (run_lset (n := n) ha.run hi.run hv.run) hr.run p σ H ρ s Z en pk fin
  exact z
end
end Tw

set_option Elab.async false
set_option linter.all false
set_option maxRecDepth 100000
set_option maxHeartbeats 4000000
set_option autoImplicit false
namespace Tw
open PySem L2 PySem.Spec PyProof.Rows
section
variable {K : PySem.W.Frag} {G : Gt} {W : WX} {X : Cx}
variable {P : Program} {w : World} {mg : Str → Option Value} {base : Heap}
/-! ### a def of the text, with defaults or without -/
theorem ok_fd {x qual : Str} {st : Stmt} {f : Addr} {fd : FuncData} {N ps : List Str} {k n : Nat} {b : MS} {dvs : List V} (F : FunD K x qual (defArgs st) (defBody st) (defScope st) dvs [] f fd) (S : FnScope N ps (defScope st)) (hn : ps.length = n)
    (hb : ∀ (cdv : Value) (A : Around) (outer : List Env) (s : Shared) (H : Hp) (E : XK), Room k (A.deeper (envOfC qual (defScope st) s.heap.objs.size f cdv)) →
      ∃ t, DSs G (cxOf (L2.CX P w) P w K mg base N qual (defScope st) f cdv A outer s H E) (fun c d _ H' => E c d H') (defBody st) t b) :
    FnOk P w K mg base (L2.CX P w) (k + 1) f fd ps (spM G n (mdef N.length b)) := by
  refine F.ok S (fun vs H Q E h => by rw [h.1, hn]) fun cdv A outer s H vs Q E hr h => ?_
  obtain ⟨t, dt⟩ := hb cdv A outer s H E hr
  refine ⟨t, dt.ps, ?_⟩
  obtain ⟨_, p, ds, s1, rs, pk, fin⟩ := h
  refine dt.run p _ H (startL N.length ds) s1 _ (env_start rs) pk ?_
  unfold mdef at fin
  cases q : b (startL N.length ds) s1 with
  | nx ρ s' => rw [q] at fin; exact fun σ' H' k pk' _ => fin _ H' k pk' rfl
  | ret d s' => rw [q] at fin; exact fun v H' k pk' rd => fin v H' k pk' rd
  | exc c ns xs ρ s' => rw [q] at fin; exact fun dd σ' H' k pk' _ x => fin dd H' k pk' x
  | bk ρ s' => rw [q] at fin; exact False.elim fin
  | ct ρ s' => rw [q] at fin; exact False.elim fin
  | bad => rw [q] at fin; exact False.elim fin
theorem fund_mk {x qual : Str} {st : Stmt} {f : Addr} {oc : Value} {od an : Option Addr} {osl : Array (Option Value)} {kV doc pm cdv ct : Value} (l : K.lookup f = some ⟨oc, od, .func (PySem.W.fnOf x qual (defArgs st) (defBody st) (defScope st) .none kV doc pm an cdv ct), osl⟩)
    (c : PySem.W.codeIn K cdv qual = true) (k : PySem.W.keepIn K (.ref f) = true) : FunD K x qual (defArgs st) (defBody st) (defScope st) [] [] f (PySem.W.fnOf x qual (defArgs st) (defBody st) (defScope st) .none kV doc pm an cdv ct) :=
  ⟨⟨oc, od, .none, kV, doc, pm, an, cdv, ct, osl, rfl, l, c, .inl ⟨rfl, rfl⟩, .inl rfl⟩, k⟩
theorem fund_mk1 {x qual : Str} {st : Stmt} {f T : Addr} {oc toc : Value} {od an tod : Option Addr} {osl tsl : Array (Option Value)} {kV doc pm cdv ct : Value} {tn : Nat} {its : List Value} {dvs : List V} (l : K.lookup f = some ⟨oc, od, .func (PySem.W.fnOf x qual (defArgs st) (defBody st) (defScope st) (.ref T) kV doc pm an cdv ct), osl⟩)
    (c : PySem.W.codeIn K cdv qual = true) (k : PySem.W.keepIn K (.ref f) = true) (ht : K.lookup T = some ⟨toc, tod, .seq its.toArray tn, tsl⟩) (hv : Vals dvs its) (hne : dvs ≠ []) : FunD K x qual (defArgs st) (defBody st) (defScope st) dvs [] f (PySem.W.fnOf x qual (defArgs st) (defBody st) (defScope st) (.ref T) kV doc pm an cdv ct) :=
  ⟨⟨oc, od, .ref T, kV, doc, pm, an, cdv, ct, osl, rfl, l, c, .inr ⟨hne, T, _, its, tn, rfl, ht, rfl, hv⟩, .inl rfl⟩, k⟩
/-! ### is not of bools -/
def notBo : D → D → M D := fun x y => match x, y with
  | .bl i, .bl j => mret (.bl (!decide (i = j)))
  | _, _ => mbad
theorem prim_notBo : Prim2 G rNotB notBo := by
  intro W p σ H s x y vx vy Q pk rx ry fin
  unfold notBo at fin
  split at fin
  · obtain rfl : vx = _ := rx
    obtain rfl : vy = _ := ry
    exact ⟨_, _, rfl, rfl, fin _ H Keep.refl pk rfl⟩
  · exact False.elim fin
/-! ### gcd of four -/
open PySem.Calls in
theorem run_gcd4 (a : Int) (t : Tok) (b : Int) (u : Tok) (c : Int) (v : Tok) (d : Int) (x : Tok) :
    Gives (Builtin.«math.gcd» ⟨[.int a t, .int b u, .int c v, .int d x], []⟩) (.int (((((Nat.gcd 0 a.natAbs).gcd b.natAbs).gcd c.natAbs).gcd d.natAbs : Nat) : Int)) :=
  .of_wp fun M A E s Q h => by obtain ⟨hp, g, dd, tk, os⟩ := s; wp_walk; exact ⟨_, rfl, h⟩
open PySem.Calls in
theorem args_gcd4 (a b c d : Value) : argsOk "math.gcd" ⟨[a, b, c, d], []⟩ := by unfold argsOk; kernel_rfl
theorem gcd4_eq (a b c d : Int) : ((((Nat.gcd 0 a.natAbs).gcd b.natAbs).gcd c.natAbs).gcd d.natAbs) = ((a.natAbs.gcd b.natAbs).gcd c.natAbs).gcd d.natAbs := by rw [Nat.gcd_zero_left]
def rGcd4 : List V → Hp → VK → Prop := fun vs H Q => ∃ a b c d : Int, vs = [.int a, .int b, .int c, .int d] ∧ Q (.int ((((a.natAbs.gcd b.natAbs).gcd c.natAbs).gcd d.natAbs : Nat) : Int)) H
theorem cr_gcd4 : CallR X (.builtin "math.gcd") rGcd4 := by
  intro pins s σ H vs us Q I r h
  obtain ⟨a, b, c, d, rfl, q⟩ := h
  cases r with | cons r1 r => cases r with | cons r2 r => cases r with | cons r3 r => cases r with | cons r4 r =>
  cases r
  obtain ⟨t1, rfl⟩ := r1
  obtain ⟨t2, rfl⟩ := r2
  obtain ⟨t3, rfl⟩ := r3
  obtain ⟨t4, rfl⟩ := r4
  have g := run_gcd4 a t1 b t2 c t3 d t4
  rw [gcd4_eq] at g
  exact call_function_meets PySem.W.MGF.kind_gcd PySem.W.MGF.plain_gcd PySem.W.MGF.entry_gcd (args_gcd4 _ _ _ _) g.meets ⟨.int _, H, I.tok _, ⟨_, rfl⟩, q⟩
def gcd4D (ds : List D) : M D := match ds with
  | [.int a, .int b, .int c, .int d] => mret (.int ((((a.natAbs.gcd b.natAbs).gcd c.natAbs).gcd d.natAbs : Nat) : Int))
  | _ => mbad
theorem prim_gcd4 : PrimL G rGcd4 gcd4D := by
  intro W p σ H s xs vs Q pk rs fin
  unfold gcd4D at fin
  split at fin
  · obtain ⟨v1, _, rfl, r1, v2, _, rfl, r2, v3, _, rfl, r3, v4, _, rfl, r4, hz⟩ := rs
    obtain rfl := hz
    exact ⟨_, _, _, _, by rw [(show v1 = _ from r1), (show v2 = _ from r2), (show v3 = _ from r3), (show v4 = _ from r4)], fin _ H Keep.refl pk rfl⟩
  · exact False.elim fin
/-! ### a, b = e where e is a tuple or a list -/
def gEi (K : PySem.W.Frag) (n : Nat) (gs : TGs) : TG := fun v σ H Q => gTup K n gs v σ H Q ∨ gLst K n gs v σ H Q
def gem (n : Nat) (g : List D → Loc → Option Loc) : D → Loc → Option Loc := fun d ρ => match d with
  | .tup ds => if decide (ds.length = n) = true then g ds ρ else none
  | .lst ds => if decide (ds.length = n) = true then g ds ρ else none
  | _ => none
theorem g_sq {es : List Expr} {pos : Pos} {vs : List Nat} {n k : Nat} {gs : TGs} {g2 : List D → Loc → Option Loc} (hK : X.K = K) (hc : X.calm = true) (h : DGs G X vs es gs g2) (hn : (assignEach es X.env).length = n := by rfl) (hst : (assignEach es X.env).findIdx? (·.1) = none := by rfl) : DG G X vs (.Tuple es k pos) (gEi K n gs) (gem n g2) := by
  have a := g_tup (k := k) (pos := pos) hK hc h hn hst
  have b := g_lst (k := k) (pos := pos) hK hc h hn hst
  refine ⟨⟨fun pins s σ H v u Q I r hw => ?_⟩, fun p σ H ρ d v Q e rd h => ?_⟩
  · rcases hw with hw | hw
    · exact a.pg.run pins s σ H v u Q I r hw
    · exact b.pg.run pins s σ H v u Q I r hw
  · cases d <;> first
      | exact False.elim h
      | exact .inl (a.run p σ H ρ _ v Q e rd h)
      | exact .inr (b.run p σ H ρ _ v Q e rd h)
/-! ### C.m(..), what is raised let out -/
section
variable {o e : Expr} {es : List Expr} {to : TE} {fo : Loc → M D} {pos apos : Pos} {tA : TA} {fA : Loc → M (List D)} {m : Str}
variable {CX : CXT} {k : Nat} {C p g : Addr} {mc : Value} {fd : FuncData} {ps : List Str} {sp : Sp} {dvs : List V} {dl : List Value} {E : L2.St → XK} {t : TA} {pl : Sem Bool}
theorem run_cmS {pins : List (Addr × Obj)} {σ : L2.St} {H : Hp} {s : Shared} {q : Addr} {Q : VK} {us : List Value} {vs : List V} (F : FnOk X.prog X.w X.K X.mg X.base CX k g fd ps sp) (hr : Room k X.A) (hb : L2.Binds X.K fd ps dl) (hd : Vals dvs dl) (hx : ∀ σ, PassesAt CX X σ (E σ)) (I : Inv X ((q, PySem.W.methodObj (.ref g) (.ref C)) :: pins) σ H s)
    (r : Vals vs us) (h : sp (.ref C :: (vs ++ dvs)) H Q (E σ)) : wpAny (model X.prog X.w) X.A (call (.ref q) us) (EP X pins σ Q) X.xe s := by
  have r2 : Vals ((.ref C :: vs) ++ dvs) ((.ref C :: us) ++ dl) := Vals.append (.cons rfl r) hd
  have hl : ((.ref C :: us) ++ dl).length = ps.length := by rw [← r2.length]; exact F.len _ _ _ _ h
  have z : wpAny (model X.prog X.w) X.A (call (.ref q) us) (EP X ((q, PySem.W.methodObj (.ref g) (.ref C)) :: pins) σ Q) X.xe s := by
    refine wpAny_call (PySem.W.method_call (ClX.pin_at I) (codeAny_mono (F.run X.A X.stack s H ⟨.ref C :: us, []⟩ ((.ref C :: us) ++ dl) ((.ref C :: vs) ++ dvs) Q (E σ) hr I.env0 (hb s (.ref C :: us) I.kIn hl) r2 h) fun r s' hq => ?_))
    cases r with
    | error e => exact hx σ _ H s e s' I hq
    | ok fl =>
      cases fl with
      | ret u => exact I.after hq
      | next => exact False.elim hq
      | brk => exact False.elim hq
      | cont => exact False.elim hq
  exact thn z fun _ _ y => ClX.unpinE y
def tCMethS (C : Addr) (sp : Sp) (dvs : List V) (E : L2.St → XK) (ta : TE) (t : TA) : TE := fun σ H Q => ta σ H fun x H1 => x = .ref C ∧ t σ H1 fun vs H2 => sp (.ref C :: (vs ++ dvs)) H2 Q (E σ)
theorem pe_cmethS (he : PE X o to) (r : ClX.CRead X.K C mc) (c : ClX.CMet X.K C mc m p g) (F : FnOk X.prog X.w X.K X.mg X.base CX k g fd ps sp) (hr : Room k X.A) (hb : L2.Binds X.K fd ps dl) (hd : Vals dvs dl) (hx : ∀ σ, PassesAt CX X σ (E σ)) (ha : PA X (e :: es) t)
    (hst : starEach (e :: es) X.env = (false, eval e X.env) :: starEach es X.env := by rfl) (hpl : (backTo pos (starEach es X.env)).any (·.1) = false := by rfl)
    (ht : eval (.Call (.Attribute o m apos) (e :: es) [] pos) X.env = (do
      let ov ← eval o X.env
      standAt apos.atName
      let (f, first) ← holding [ov] (getMethod ov m pl)
      callWith pos f first (backTo pos (starEach (e :: es) X.env)) (backToKw pos (keywordEach [] X.env))) := by rfl) :
    PE X (.Call (.Attribute o m apos) (e :: es) [] pos) (tCMethS C sp dvs E to t) := by
  refine ⟨fun pins s σ H Q I h => ?_⟩
  refine PySem.W.methodCall_KW (pl := pl) (thn (he.run pins s σ H _ I h) fun u s1 ⟨x, H1, I1, rx, ex, q⟩ => ?_) ht
  subst ex
  obtain rfl : u = Value.ref C := rx
  refine ClX.getmethcm_ok I1 r c fun s2 I2 => ?_
  refine ClX.callwith_cm I2 (ClX.base_none I1 (Nat.le_refl _)) c.fi (thn (ha.run pos _ s2 σ H1 _ I2 q) fun us s3 ⟨vs, H2, I3, rv, q2⟩ => ⟨⟨ClX.pin_at I3, I3.kIn⟩, ?_⟩) hst hpl
  exact run_cmS F hr hb hd hx I3 rv q2
theorem pe_cmethS0 (he : PE X o to) (r : ClX.CRead X.K C mc) (c : ClX.CMet X.K C mc m p g) (F : FnOk X.prog X.w X.K X.mg X.base CX k g fd ps sp) (hr : Room k X.A) (hb : L2.Binds X.K fd ps dl) (hd : Vals dvs dl) (hx : ∀ σ, PassesAt CX X σ (E σ))
    (ht : eval (.Call (.Attribute o m apos) [] [] pos) X.env = (do
      let ov ← eval o X.env
      standAt apos.atName
      let (f, first) ← holding [ov] (getMethod ov m pl)
      callWith pos f first (backTo pos (starEach [] X.env)) (backToKw pos (keywordEach [] X.env))) := by rfl) :
    PE X (.Call (.Attribute o m apos) [] [] pos) (tCMethS C sp dvs E to tNil) := by
  refine ⟨fun pins s σ H Q I h => ?_⟩
  refine PySem.W.methodCall_KW (pl := pl) (thn (he.run pins s σ H _ I h) fun u s1 ⟨x, H1, I1, rx, ex, q⟩ => ?_) ht
  subst ex
  obtain rfl : u = Value.ref C := rx
  refine ClX.getmethcm_ok I1 r c fun s2 I2 => ?_
  exact PySem.W.callWith_M0 ⟨ClX.pin_at I2, I2.kIn⟩ c.fi (run_cmS F hr hb hd hx I2 .nil q)
def kCmS (c : Nat) (md : List D → M D) (dd : List D) (fo : Loc → M D) (fA : Loc → M (List D)) : Loc → M D := fun ρ => mbind (fo ρ) fun d => match d with
  | .cls k => if (k == c) = true then mbind (fA ρ) fun ds => md (.cls c :: (ds ++ dd)) else mbad
  | _ => mbad
theorem run_cmtS {c j N : Nat} {md : List D → M D} {dd : List D} (hdd : ∀ p H, RepL G p H dd dvs) (ho : RunG G W (RelE G) to fo) (ha : RunG G W (RelA G) tA fA) (hl : LenA fA j) (hj : j + dd.length + 1 = N) :
    RunG G W (RelE G) (tCMethS (G.cls c) (spM G N md) dvs (WE W) to tA) (kCmS c md dd fo fA) := by
  intro p σ H ρ s Q e pk fin
  refine ho p σ H ρ s _ e pk (FinG.step (RA := RelE G) fin fun d s1 v H1 k1 pk1 rd fin1 => ?_)
  cases d <;> try (exact False.elim fin1)
  rename_i kk
  dsimp only at fin1
  by_cases hk : (kk == c) = true
  · rw [if_pos hk] at fin1
    obtain rfl : kk = c := beq_iff_eq.mp hk
    refine ⟨rd, ?_⟩
    have fin2 : FinG G W (RelE G) p σ H1 Q (obind (fA ρ s1) fun ds => md (.cls kk :: (ds ++ dd))) := fin1
    refine ha p σ H1 ρ s1 _ (e.keep pk.at k1) pk1 ?_
    cases h2 : fA ρ s1 with
    | ok ds s3 =>
      rw [h2] at fin2
      intro vs H2 k2 pk2 rs
      have hlen : (ds ++ dd).length + 1 = N := by rw [List.length_append, hl ρ s1 ds s3 h2]; exact hj
      have rr : RepL G p H2 (ds ++ dd) (vs ++ dvs) := repL_app rs (hdd p H2)
      exact ⟨by rw [List.length_cons, ← repL_len rr]; exact hlen, p, .cls kk :: (ds ++ dd), s3, ⟨.ref (G.cls kk), vs ++ dvs, rfl, rfl, rr⟩, pk2, (FinG.keep k2 fin2).wx fun _ _ _ z => z⟩
    | exc c ns xs s3 => rw [h2] at fin2; exact fin2
    | bad => rw [h2] at fin2; exact fin2
  · rw [if_neg hk] at fin1; exact False.elim fin1
theorem x_cmtS {c j N : Nat} {md : List D → M D} {dd : List D} (M : Cmt X.K (G.cls c) m ps dl mc p g fd) (F : FnOk X.prog X.w X.K X.mg X.base (L2.CX X.prog X.w) k g fd ps (spM G N md)) (hr : Room k X.A) (tk : Takes X W) (hd : Vals dvs dl) (hdd : ∀ p H, RepL G p H dd dvs)
    (ho : DE G X W o to fo) (ha : DA G X W (e :: es) tA fA) (hl : LenA fA j) (hj : j + dd.length + 1 = N)
    (hst : starEach (e :: es) X.env = (false, eval e X.env) :: starEach es X.env := by rfl) (hpl : (backTo pos (starEach es X.env)).any (·.1) = false := by rfl)
    (ht : eval (.Call (.Attribute o m apos) (e :: es) [] pos) X.env = (do
      let ov ← eval o X.env
      standAt apos.atName
      let (f, first) ← holding [ov] (getMethod ov m pl)
      callWith pos f first (backTo pos (starEach (e :: es) X.env)) (backToKw pos (keywordEach [] X.env))) := by rfl) :
    DE G X W (.Call (.Attribute o m apos) (e :: es) [] pos) (tCMethS (G.cls c) (spM G N md) dvs (WE W) to tA) (kCmS c md dd fo fA) :=
  ⟨pe_cmethS ho.pe M.rd M.at_ F hr M.b hd (fun σ => passAt tk σ) ha.pa hst hpl ht, run_cmtS hdd ho.run ha.run hl hj⟩
theorem x_cmtS0 {c N : Nat} {md : List D → M D} {dd : List D} (M : Cmt X.K (G.cls c) m ps dl mc p g fd) (F : FnOk X.prog X.w X.K X.mg X.base (L2.CX X.prog X.w) k g fd ps (spM G N md)) (hr : Room k X.A) (tk : Takes X W) (hd : Vals dvs dl) (hdd : ∀ p H, RepL G p H dd dvs)
    (ho : DE G X W o to fo) (hj : 0 + dd.length + 1 = N)
    (ht : eval (.Call (.Attribute o m apos) [] [] pos) X.env = (do
      let ov ← eval o X.env
      standAt apos.atName
      let (f, first) ← holding [ov] (getMethod ov m pl)
      callWith pos f first (backTo pos (starEach [] X.env)) (backToKw pos (keywordEach [] X.env))) := by rfl) :
    DE G X W (.Call (.Attribute o m apos) [] [] pos) (tCMethS (G.cls c) (spM G N md) dvs (WE W) to tNil) (kCmS c md dd fo aNil) :=
  ⟨pe_cmethS0 ho.pe M.rd M.at_ F hr M.b hd (fun σ => passAt tk σ) ht, run_cmtS hdd ho.run (a_nil (X := X)).run l_nil hj⟩
end
/-! ### an own operator that may raise -/
section
variable {a b : Expr} {ta tb : TE} {fa fb : Loc → M D} {pos : Pos}
abbrev R2X := V → V → L2.St → Hp → VK → Prop
def OpRX (X : Cx) (f : Value → Value → Sem Value) (r : R2X) : Prop :=
  ∀ (pins : List (Addr × Obj)) (s : Shared) (σ : L2.St) (H : Hp) (x y : V) (v u : Value) (Q : VK), Inv X pins σ H s → RelV x v → RelV y u → r x y σ H Q →
    wpAny (model X.prog X.w) X.A (f v u) (EP X pins σ Q) X.xe s
def Prim2X (G : Gt) (W : WX) (r : R2X) (f : D → D → M D) : Prop :=
  ∀ (p : Fm) (σ : L2.St) (H : Hp) (s : Pen) (x y : D) (vx vy : V) (Q : VK), PenOk G p H s → Rep G p H x vx → Rep G p H y vy → FinG G W (RelE G) p σ H Q (f x y s) → r vx vy σ H Q
def tOpX (r : R2X) (ta tb : TE) : TE := fun σ H Q => ta σ H fun x H1 => tb σ H1 fun y H2 => r x y σ H2 Q
theorem x_opX {op : Operator} {r : R2X} {f : D → D → M D} (ho : OpRX X (binaryOp op) r) (hp : Prim2X G W r f) (ha : DE G X W a ta fa) (hb : DE G X W b tb fb) : DE G X W (.BinOp a op b pos) (tOpX r ta tb) (kOp f fa fb) := by
  refine ⟨⟨fun pins s σ H Q I h => wpAny_BinOp (binT (R := fun x y H2 => r x y σ H2 Q) ha.pe hb.pe I h fun v u s2 x y H2 I2 rx ry q => ho pins s2 σ H2 x y v u Q I2 rx ry q)⟩, fun p σ H ρ s Q e pk fin => ?_⟩
  refine ha.run p σ H ρ s _ e pk (FinG.step (RA := RelE G) fin fun x s1 vx H1 k1 pk1 rx fin1 => ?_)
  refine hb.run p σ H1 ρ s1 _ (e.keep pk.at k1) pk1 (FinG.step (RA := RelE G) fin1 fun y s2 vy H2 k2 pk2 ry fin2 => ?_)
  exact hp p σ H2 s2 x y vx vy Q pk2 (rep_keep pk1.at k2 x vx rx) ry fin2
variable {op : Operator} {C g : Addr} {fd : FuncData} {ps : List Str} {k n : Nat} {sp : Sp} {md : List D → M D} {E : L2.St → XK}
def rOwnX (C : Addr) (sp : Sp) (E : L2.St → XK) : R2X := fun x y σ H Q => ∃ a dx fs b dy gs, x = .ref a ∧ y = .ref b ∧ H a = some (.ins C dx fs) ∧ H b = some (.ins C dy gs) ∧ sp [x, y] H Q (E σ)
theorem op_ownX (M : Opr X.K C op g fd ps) (F : FnOk X.prog X.w X.K X.mg X.base (L2.CX X.prog X.w) k g fd ps sp) (hr : Room k X.A) (hx : ∀ σ, PassesAt (L2.CX X.prog X.w) X σ (E σ)) : OpRX X (binaryOp op) (rOwnX C sp E) := by
  intro pins s σ H x y v u Q I rx ry h
  obtain ⟨a, dx, fs, b, dy, gs, rfl, rfl, ha, hb, q⟩ := h
  obtain rfl : v = Value.ref a := rx
  obtain rfl : u = Value.ref b := ry
  obtain ⟨ox, od, J⟩ := inst_of I ha
  obtain ⟨oy, oe, J'⟩ := inst_of I hb
  exact bin_same I.kIn J J' M.first M.at_ M.isf (wpAny_mono (run_fnSD (E := E) (us := [.ref a, .ref b]) (vs := [.ref a, .ref b]) (dvs := []) F hr M.b .nil (hx σ) I (.cons rfl (.cons rfl .nil)) q) (fun _ _ z => back_of z) fun _ _ z => z)
def ownX (n : Nat) (md : List D → M D) : D → D → M D := fun x y => match x, y with
  | .ins k _ _, .ins j _ _ => if (k == n && j == n) = true then md [x, y] else mbad
  | _, _ => mbad
theorem prim_ownX : Prim2X G W (rOwnX (G.cls n) (spM G 2 md) (WE W)) (ownX n md) := by
  intro p σ H s x y vx vy Q pk rx ry fin
  unfold ownX at fin
  split at fin
  · split at fin
    · rename_i kx nx xs ky ny ys hk
      rw [Bool.and_eq_true] at hk
      obtain rfl : kx = n := beq_iff_eq.mp hk.1
      obtain rfl : ky = kx := beq_iff_eq.mp hk.2
      obtain ⟨a, dx, vs, rfl, a0, a1, al, as⟩ := id rx
      obtain ⟨b, dy, us, rfl, b0, b1, bl, bs⟩ := id ry
      exact ⟨a, dx, _, b, dy, _, rfl, rfl, a1, b1, rfl, p, [.ins _ nx xs, .ins _ ny ys], s, ⟨_, _, rfl, rx, _, _, rfl, ry, rfl⟩, pk, FinG.wx fin fun _ _ _ z => z⟩
    · exact False.elim fin
  · exact False.elim fin
theorem x_own (M : Opr X.K (G.cls n) op g fd ps) (F : FnOk X.prog X.w X.K X.mg X.base (L2.CX X.prog X.w) k g fd ps (spM G 2 md)) (hr : Room k X.A) (tk : Takes X W) (ha : DE G X W a ta fa) (hb : DE G X W b tb fb) :
    DE G X W (.BinOp a op b pos) (tOpX (rOwnX (G.cls n) (spM G 2 md) (WE W)) ta tb) (kOp (ownX n md) fa fb) := x_opX (op_ownX M F hr (fun σ => passAt tk σ)) prim_ownX ha hb
end
/-! ### the error that is handled: isinstance, e.f -/
section
def ExAt (H : Hp) (d : Option Addr) : Prop := ∀ b, d = some b → ∃ gs, H b = some (.xd gs)
def rIsX (K : PySem.W.Frag) (D a : Addr) (d : Option Addr) : List V → Hp → VK → Prop := fun xs H Q => ∃ (c : V) (cv : Value) (b : Bool), xs = [.ref a, c] ∧ (∀ u, RelV c u → u = cv) ∧ PySem.W.kitOne K (.ref D) cv = some b ∧ ExAt H d ∧ Q (.bl b) H
theorem call_isX {a D : Addr} {d : Option Addr} {oe : Obj} {pn : List (Addr × Obj)} (C : ExcC X.K D) (hz : Zc (.ref D) d oe) (hf : ∃ vs, oe.data = .fields vs) : CallR (X.suite a ((a, oe) :: pn)) (.builtin "isinstance") (rIsX X.K D a d) := by
  intro pins s σ H xs us Q I r h
  obtain ⟨c, cv, b, rfl, hcv, e, hx, q⟩ := h
  cases r with | cons rx rr => cases rr with | cons rt rr =>
  cases rr
  cases rx
  have ec := hcv _ rt
  subst ec
  obtain ⟨hget, _⟩ := I.pin (a, oe) (List.mem_append.mpr (.inl List.mem_cons_self))
  obtain ⟨vs, hv⟩ := hf
  have J : ∃ od, PySem.W.InstAt s.heap a oe D od := by
    cases d with
    | none =>
      obtain ⟨oc, od, oda, osl⟩ := oe
      obtain ⟨h1, h2⟩ := hz
      dsimp only at h1 h2 hv
      subst h1 h2 hv
      exact ⟨none, hget, rfl, rfl, trivial⟩
    | some dd =>
      obtain ⟨gs, hdd⟩ := hx dd rfl
      obtain ⟨mA, hns, hr⟩ := (show ObjOk X.prog X.w H s.heap dd (.xd gs) from I.hok dd _ hdd)
      obtain ⟨od, ho, hl⟩ := lookIn_ns hns
      exact ⟨some od, hget, hz.1, by unfold PySem.W.notCls; rw [hv] <;> rfl, by rw [hz.2]; exact ho⟩
  obtain ⟨od, J⟩ := J
  have hc : (PySem.W.clsIn X.K D).isSome = true := by
    obtain ⟨cd, hc, _⟩ := PySem.W.any_some C.hd
    rw [hc]
    rfl
  exact PySem.W.kia_one (PySem.W.kitx_exc hc C.hg C.hk C.hs C.ha C.hn C.ht C.hm) I.kIn J e (fun z => nomatch z) fun tk => ⟨.bl b, H, I.kept (t' := tk) fun _ _ z => z, rfl, q⟩
def isiX (ans : String ⊕ Nat → String ⊕ Nat → Option Bool) (ds : List D) : M D := match ds with
  | [.err c _ _, .ty T] => (match ans (.inr c) (.inl T) with
    | some b => mret (.bl b)
    | none => mbad)
  | [.err c _ _, .cls n] => (match ans (.inr c) (.inr n) with
    | some b => mret (.bl b)
    | none => mbad)
  | _ => mbad
/-- what a caught error's dict is in the heap -/
theorem exat_of {p : Fm} {H : Hp} {a : Addr} {c c2 : Nat} {dd : Option Addr} {ns : List Str} {xs : List D} {v : V} (r : Rep (G.at a c dd) p H (.err c2 ns xs) v) : v = .ref a ∧ c2 = c ∧ ExAt H dd := by
  obtain ⟨a2, d2, us, rfl, q0, _, q1⟩ := r
  have q0' : (a, c, dd) = (a2, c2, d2) := Option.some.inj q0
  obtain ⟨rfl, q2⟩ := Prod.mk.inj q0'
  obtain ⟨rfl, rfl⟩ := Prod.mk.inj q2
  refine ⟨rfl, rfl, fun b hb => ?_⟩
  rcases q1 with ⟨_, e⟩ | ⟨b', gs, _, e, _, hb', _⟩
  · rw [e] at hb; cases hb
  · rw [e] at hb; cases hb; exact ⟨gs, hb'⟩
theorem x_isX {a : Addr} {oe : Obj} {pn : List (Addr × Obj)} {c : Nat} {dd : Option Addr} {ans : String ⊕ Nat → String ⊕ Nat → Option Bool} {p0 pos : Pos} {e : Expr} {es : List Expr} {tA : TA} {fA : Loc → M (List D)} (C : ExcC X.K (G.cls c)) (hz : Zc (.ref (G.cls c)) dd oe) (hf : ∃ vs, oe.data = .fields vs)
    (A : ∀ t b, ans (.inr c) t = some b → PySem.W.kitOne X.K (.ref (G.cls c)) (tyV G t) = some b)
    (hg : Gl (X.suite a ((a, oe) :: pn)) "isinstance") (hm : X.mg "isinstance" = none)
    (ha : DA (G.at a c dd) (X.suite a ((a, oe) :: pn)) W0 (e :: es) tA fA) (he : starEach (e :: es) X.env = (false, eval e X.env) :: starEach es X.env := by rfl) (hpl : (backTo pos (starEach es X.env)).any (·.1) = false := by rfl) :
    DE (G.at a c dd) (X.suite a ((a, oe) :: pn)) W0 (.Call (.Name "isinstance" p0) (e :: es) [] pos) (tCB (rIsX X.K (G.cls c) a dd) tA) (kCall (isiX ans) fA) := by
  refine ⟨pe_callB (call_isX C hz hf) hg hm (by decide +kernel) ha.pa (by decide) (by decide) he hpl, fun p σ H ρ s Q en pk fin => ?_⟩
  refine ha.run p σ H ρ s _ en pk (FinG.step (RA := RelA (G.at a c dd)) fin fun ds s1 vs H1 k1 pk1 rs fin1 => ?_)
  unfold isiX at fin1
  split at fin1
  · rename_i c2 ns xs T
    obtain ⟨v1, _, rfl, r1, v2, _, rfl, r2, hz2⟩ := rs
    obtain rfl := hz2
    obtain ⟨rfl, rfl, hx⟩ := exat_of r1
    obtain rfl : v2 = .ty T := r2
    cases q : ans (.inr c2) (.inl T) with
    | none => rw [q] at fin1; exact False.elim fin1
    | some b =>
      rw [q] at fin1
      exact ⟨_, _, b, rfl, fun u r => r, A _ _ q, hx, fin1 _ H1 Keep.refl pk1 rfl⟩
  · rename_i c2 ns xs n
    obtain ⟨v1, _, rfl, r1, v2, _, rfl, r2, hz2⟩ := rs
    obtain rfl := hz2
    obtain ⟨rfl, rfl, hx⟩ := exat_of r1
    obtain rfl : v2 = .ref (G.cls n) := r2
    cases q : ans (.inr c2) (.inr n) with
    | none => rw [q] at fin1; exact False.elim fin1
    | some b =>
      rw [q] at fin1
      exact ⟨_, _, b, rfl, fun u r => r, A _ _ q, hx, fin1 _ H1 Keep.refl pk1 rfl⟩
  · exact False.elim fin1
def kXf (f : Str) (fe : Loc → M D) : Loc → M D := fun ρ => mbind (fe ρ) fun d => match d with
  | .err _ ns xs => (match fldOf ns xs f with
    | some x => mret x
    | none => mbad)
  | _ => mbad
theorem fldOf_ix : ∀ {ns : List Str} {xs : List D} {f : Str} {d : D}, fldOf ns xs f = some d → ∃ i : Nat, ns[i]? = some f ∧ xs[i]? = some d
  | [], xs, f, d, h => by simp [fldOf] at h
  | n :: ns, [], f, d, h => by simp [fldOf] at h
  | n :: ns, x :: xs, f, d, h => by
    unfold fldOf at h
    rw [List.zip_cons_cons] at h
    simp only [List.lookup] at h
    split at h
    · rename_i hb
      obtain rfl := beq_iff_eq.mp hb
      exact ⟨0, rfl, h⟩
    · obtain ⟨i, e1, e2⟩ := fldOf_ix (ns := ns) (xs := xs) (show fldOf ns xs f = some d from h)
      exact ⟨i + 1, e1, e2⟩
theorem x_xf {a : Addr} {oe : Obj} {pn : List (Addr × Obj)} {c : Nat} {dd : Option Addr} {e : Expr} {te : TE} {fe : Loc → M D} {pos : Pos} {n : Str} (T : XfC X.K (G.cls c)) (hno : PySem.W.findIn X.K (.ref (G.cls c)) n = some none)
    (hz : Zc (.ref (G.cls c)) dd oe) (hf : ∃ vs, oe.data = .fields vs) (he : DE (G.at a c dd) (X.suite a ((a, oe) :: pn)) W0 e te fe) (hb : attributeBase e n X.env (eval e X.env) = eval e X.env := by rfl) :
    DE (G.at a c dd) (X.suite a ((a, oe) :: pn)) W0 (.Attribute e n pos) (tXf a (.ref (G.cls c)) dd (G.cls c) n te) (kXf n fe) := by
  refine ⟨pe_xf T hno hz hf he.pe hb, fun p σ H ρ s Q en pk fin => ?_⟩
  refine he.run p σ H ρ s _ en pk (FinG.step (RA := RelE (G.at a c dd)) fin fun d s1 v H1 k1 pk1 rd fin1 => ?_)
  cases d <;> try (exact False.elim fin1)
  rename_i c2 ns xs
  dsimp only at fin1
  cases q : fldOf ns xs n with
  | none => rw [q] at fin1; exact False.elim fin1
  | some x =>
    rw [q] at fin1
    obtain ⟨i, h1, h2⟩ := fldOf_ix q
    obtain ⟨a2, d2, us, rfl, q0, rs, q1⟩ := id rd
    have q0' : (a, c, dd) = (a2, c2, d2) := Option.some.inj q0
    obtain ⟨rfl, q2⟩ := Prod.mk.inj q0'
    obtain ⟨rfl, rfl⟩ := Prod.mk.inj q2
    rcases q1 with ⟨e0, _⟩ | ⟨b', gs, _, e0, _, hb', hg⟩
    · subst e0; cases i <;> cases h1
    · obtain ⟨w, hw, rw'⟩ := repL_get rs h2
      exact ⟨rfl, rfl, b', gs, w, e0, hb', hg i n w h1 hw, fin1 _ H1 Keep.refl pk1 rw'⟩
end
end
end Tw

set_option Elab.async false
set_option linter.all false
set_option maxRecDepth 100000
set_option maxHeartbeats 4000000
set_option autoImplicit false
namespace Tw
open PySem L2 PySem.Spec PyProof.Rows
section
variable {K : PySem.W.Frag} {G : Gt} {W : WX} {X : Cx}
variable {a b c e : Expr} {es : List Expr} {ta te : TE} {fa fe : Loc → M D} {pos : Pos} {tA : TA} {fA : Loc → M (List D)}
def kMk (c : Nat) (m : List D → M D) (dd : List D) (fA : Loc → M (List D)) : Loc → M D := fun ρ => mbind (fA ρ) fun ds => mkD c m (ds ++ dd)
theorem x_mk {k n : Nat} {c : Nat} {g : Addr} {fd : FuncData} {ps : List Str} {dd : List D} {dvs : List V} {dl : List Value} {m : List D → M D} {x : Str} {p : Pos} (M : MkC X.K X.mg x (G.cls c) g fd ps dl) (F : FnOk X.prog X.w X.K X.mg X.base (L2.CX X.prog X.w) k g fd ps (spM G (n + 1) m)) (hr : Room (k + 1) X.A) (tk : Takes X W) (hd : Vals dvs dl) (hdd : ∀ p H, RepL G p H dd dvs)
    (ha : DA G X W (e :: es) tA fA) {j : Nat} (hl : LenA fA j) (hj : j + dd.length = n) (hg : Gl X x := by rfl) (hdb : (x == ("__debug__" : Str)) = false := by decide) (he : starEach (e :: es) X.env = (false, eval e X.env) :: starEach es X.env := by rfl) (hpl : (backTo pos (starEach es X.env)).any (·.1) = false := by rfl) :
    DE G X W (.Call (.Name x p) (e :: es) [] pos) (tMakeS (G.cls c) (spM G (n + 1) m) dvs (WE W) tA) (kMk c m dd fA) := x_make M F hr tk hd hdd ha hl hj hg hdb he hpl
def spar3 (i j l : Nat) (fA : Loc → M (List D)) : MS := fun ρ s => sof (fA ρ s) ρ fun ds s' => match ds with
  | [x, y, z] => .nx (((ρ.set i (some x)).set j (some y)).set l (some z)) s'
  | _ => .bad
theorem run_par3 {i j l : Nat} (ha : RunG G W (RelA G) tA fA) : RunS G W (tPar3 i j l tA) (spar3 i j l fA) := by
  intro p σ H ρ s Z e pk fin
  refine ha p σ H ρ s _ e pk (FinS.step fin (fun H1 s1 k1 pk1 => e.keep pk.at k1) fun ds s1 vs H1 k1 pk1 rs fin1 => ?_)
  split at fin1
  · obtain ⟨u, _, rfl, ru, v, _, rfl, rv, w, _, rfl, rw', hz⟩ := rs
    obtain rfl := hz
    exact ⟨u, v, w, rfl, fin1 _ H1 Keep.refl pk1 ((((e.keep pk.at k1).set ru).set rv).set rw')⟩
  · exact False.elim fin1
theorem ds_par3 {i j l : Nat} {x y z : Str} {px py pz pt : Pos} {kt k2 pt2} (hc : X.calm = true) (hN : X.N.Nodup) (hi : X.N[i]? = some x) (hj : X.N[j]? = some y) (hl : X.N[l]? = some z) (hij : i ≠ j) (hil : i ≠ l) (hjl : j ≠ l)
    (hx : X.env.scope.names.lookup x = some .local) (hy : X.env.scope.names.lookup y = some .local) (hz : X.env.scope.names.lookup z = some .local) (ha : DA G X W [a, b, c] tA fA)
    (hw : swappedStores [.Tuple [.Name x px, .Name y py, .Name z pz] kt pt] (.Tuple [a, b, c] k2 pt2) X.env = pure (some [x, y, z]) := by rfl)
    (hs : swapsWithSole [.Tuple [.Name x px, .Name y py, .Name z pz] kt pt] (.Tuple [a, b, c] k2 pt2) pos.line X.env = pure false := by rfl) :
    DS G X W (.Assign [.Tuple [.Name x px, .Name y py, .Name z pz] kt pt] (.Tuple [a, b, c] k2 pt2) pos) (tPar3 i j l tA) (spar3 i j l fA) := ⟨ps_par3 hc hN hi hj hl hij hil hjl hx hy hz ha.pa hw hs, run_par3 ha.run⟩
theorem x_gint {x : Str} {i : Int} {t : Tok} (hm : X.mg x = some (.int i t)) (hg : Gl X x := by rfl) (hd : (x == ("__debug__" : Str)) = false := by decide) : DE G X W (.Name x pos) (tC (.int i)) (kC (.int i)) := de_gint hg hm hd
/-! ### list(x), tuple(x) of lists and tuples -/
def listD (ds : List D) : M D := match ds with
  | [.lst xs] => mret (.lst xs)
  | [.tup xs] => mret (.lst xs)
  | _ => mbad
def tupleD (ds : List D) : M D := match ds with
  | [.lst xs] => mret (.tup xs)
  | [.tup xs] => mret (.tup xs)
  | _ => mbad
def rList (K : PySem.W.Frag) : List V → Hp → VK → Prop := fun xs H Q => ∃ p ys, xs = [.ref p] ∧ (SqL K H p ys ∨ SqT K H p ys) ∧ ∀ l, H l = none → Q (.ref l) (upd H l (.lst ys))
def rTuple (K : PySem.W.Frag) : List V → Hp → VK → Prop := fun xs H Q => ∃ p ys, xs = [.ref p] ∧ ((SqL K H p ys ∧ ∀ l, H l = none → Q (.ref l) (upd H l (.tup ys))) ∨ (SqT K H p ys ∧ Q (.ref p) H))
theorem cr_list (hK : X.K = K) : CallR X (.type "list") (rList K) := by subst hK; exact call_list_of
theorem cr_tuple (hK : X.K = K) : CallR X (.type "tuple") (rTuple K) := by subst hK; exact call_tuple_of
theorem prim_list : PrimL G (rList K) listD := by
  intro W p σ H s xs vs Q pk rs fin
  unfold listD at fin
  split at fin
  · obtain ⟨v, _, rfl, ⟨a, us, rfl, h0, h1, q1⟩, hz⟩ := rs
    obtain rfl := hz
    refine ⟨a, us, rfl, .inl (SqL.of h1), fun l hl => ?_⟩
    have k : Keep p H (upd H l (.lst us)) := Keep.new hl
    exact fin _ _ k (pk.new hl) ⟨l, us, rfl, pk.free hl, upd_same, repL_keep pk.at k _ _ q1⟩
  · obtain ⟨v, _, rfl, ⟨a, us, rfl, h0, h1, q1⟩, hz⟩ := rs
    obtain rfl := hz
    refine ⟨a, us, rfl, .inr (SqT.of h1), fun l hl => ?_⟩
    have k : Keep p H (upd H l (.lst us)) := Keep.new hl
    exact fin _ _ k (pk.new hl) ⟨l, us, rfl, pk.free hl, upd_same, repL_keep pk.at k _ _ q1⟩
  · exact fin.elim
theorem prim_tuple : PrimL G (rTuple K) tupleD := by
  intro W p σ H s xs vs Q pk rs fin
  unfold tupleD at fin
  split at fin
  · obtain ⟨v, _, rfl, ⟨a, us, rfl, h0, h1, q1⟩, hz⟩ := rs
    obtain rfl := hz
    refine ⟨a, us, rfl, .inl ⟨SqL.of h1, fun l hl => ?_⟩⟩
    have k : Keep p H (upd H l (.tup us)) := Keep.new hl
    exact fin _ _ k (pk.new hl) ⟨l, us, rfl, pk.free hl, upd_same, repL_keep pk.at k _ _ q1⟩
  · obtain ⟨v, _, rfl, rx, hz⟩ := rs
    obtain rfl := hz
    obtain ⟨a, us, rfl, h0, h1, q1⟩ := id rx
    exact ⟨a, us, rfl, .inr ⟨SqT.of h1, fin _ H Keep.refl pk rx⟩⟩
  · exact fin.elim
/-! ### isinstance, all kinds -/
def isiA (ans : String ⊕ Nat → String ⊕ Nat → Option Bool) (ds : List D) : M D := match ds with
  | [.ins _ _ _, _] => isiO ans ds
  | [_, .cls _] => isiO ans ds
  | _ => isiB ds
theorem prim_isiA {ans : String ⊕ Nat → String ⊕ Nat → Option Bool} (A : IsA G K ans) : PrimL G (rIsi K) (isiA ans) := by
  intro W p σ H s xs vs Q pk rs fin
  unfold isiA at fin
  split at fin
  · exact prim_isiO A W p σ H s _ vs Q pk rs fin
  · exact prim_isiO A W p σ H s _ vs Q pk rs fin
  · exact prim_isiB W p σ H s _ vs Q pk rs fin
theorem kit_self {C : Addr} : PySem.W.kitOne K (.ref C) (.ref C) = some true := by
  unfold PySem.W.kitOne
  rw [if_pos (beq_self_eq_true _)]
theorem kit_own {C : Addr} {t : Value} {b : Bool} (h1 : PySem.W.hasDictIn K C = true) (h2 : PySem.W.typeIn K (.ref C) = some (.type "type")) (h3 : PySem.W.subIn K t (.ref C) = some b) (hn : t ≠ .ref C) : PySem.W.kitOne K t (.ref C) = some b := by
  unfold PySem.W.kitOne
  rw [if_neg (fun z => hn (beq_iff_eq.mp z))]
  have hc : (PySem.W.clsIn K C).isSome = true := by
    obtain ⟨cd, hc, _⟩ := PySem.W.any_some h1
    rw [hc]; rfl
  show (if ((PySem.W.clsIn K C).isSome && PySem.W.typeIn K (.ref C) == some (.type "type")) = true then PySem.W.subIn K t (.ref C) else none) = some b
  rw [if_pos (by rw [hc, h2]; rfl)]
  exact h3
theorem kit_bt {C : Addr} {T : String} {b : Bool} (h1 : PySem.W.kitMeta T = true) (h3 : PySem.W.subIn K (.ref C) (.type T) = some b) : PySem.W.kitOne K (.ref C) (.type T) = some b := by
  unfold PySem.W.kitOne
  rw [if_neg (fun z => by have := beq_iff_eq.mp z; cases this)]
  show (if PySem.W.kitMeta T = true then PySem.W.subIn K (.ref C) (.type T) else none) = some b
  rw [if_pos h1]
  exact h3
theorem ref_ne {C E : Addr} (h : C ≠ E) : (Value.ref C : Value) ≠ .ref E := fun z => h (Value.ref.inj z)
theorem ty_ne {C : Addr} {T : String} : (Value.type T : Value) ≠ .ref C := fun z => nomatch z
theorem binds_full {fd : FuncData} {ps : List Str} {dvs : List V} {j : Nat} (h : ∃ ds, Vals (dvs.drop j) ds ∧ L2.Binds K fd ps ds) (e : dvs.drop j = []) : L2.Binds K fd ps [] := by
  obtain ⟨ds, h1, h2⟩ := h
  rw [e] at h1
  cases h1
  exact h2
/-! ### the bag is made -/
def bag0 (x m : Int) : Pen := ⟨[], 0, 0, x, m, 0, [], 0⟩
def spBag (K : PySem.W.Frag) : Sp := fun vs H Q _ => ∃ (a : Addr) (ns : List Int) (k : Int), vs = [.ref a, .int k] ∧ SqL K H a (ns.map V.int) ∧ ns.length ≤ 63 ∧ 0 ≤ k ∧ k < 1000 ∧
  ∀ (x m : Int) (H' : Hp) (p : Addr), Same H H' → H p = none → H' p = some (.lst [.int x, .int m, .int 0]) → Q (.ref p) H'
end
end Tw

set_option Elab.async false
set_option linter.all false
set_option maxRecDepth 100000
set_option maxHeartbeats 4000000
set_option autoImplicit false
namespace Tw
open PySem L2
theorem Sm.add2 {i j : Int} {n m : Nat} (hi : Sm n i) (hj : Sm m j) : Sm (n + m + 1) (i + j) := by
  unfold Sm at *
  have h1 : 2 ^ n ≤ 2 ^ (n + m) := Nat.pow_le_pow_right (by decide) (by omega)
  have h2 : 2 ^ m ≤ 2 ^ (n + m) := Nat.pow_le_pow_right (by decide) (by omega)
  rw [Nat.pow_succ]
  omega
theorem Sm.neg {i : Int} {n : Nat} (hi : Sm n i) : Sm n (-i) := by
  unfold Sm at *
  rw [Int.natAbs_neg]; exact hi
theorem Sm.sub2 {i j : Int} {n m : Nat} (hi : Sm n i) (hj : Sm m j) : Sm (n + m + 1) (i - j) := by
  rw [Int.sub_eq_add_neg]; exact hi.add2 hj.neg
theorem Sm.lit {i : Int} {n : Nat} (h : Sm n i := by decide) : Sm n i := h
theorem Sm.lit200 {i : Int} (h : decide (i.natAbs < 2 ^ 200) = true) : Sm 200 i := of_decide_eq_true h
theorem mulOk_any {i j : Int} {n m : Nat} (hi : Sm n i) (hj : Sm m j) (h : n + m < 1000000) : mulOk i j = true := by
  unfold Sm at *
  have l : ∀ {x : Int} {k : Nat}, x.natAbs < 2 ^ k → x.natAbs.log2 ≤ k := by
    intro x k hx
    by_cases h0 : x.natAbs = 0
    · rw [h0, Nat.log2_zero]; exact Nat.zero_le _
    · exact Nat.le_of_lt ((Nat.log2_lt h0).mpr hx)
  have a := l hi
  have b := l hj
  unfold mulOk
  rw [decide_eq_true (show i.natAbs.log2 + j.natAbs.log2 < 1000000 by omega)]
  simp
theorem mkD_of {c : Nat} {m : List D → M D} {ds : List D} {s : Pen} {fs : List (Str × D)} (hc : (clearL ds && c != gro) = true) (e : m (.self :: ds) { s with obj := [], ocls := c } = .ok .non { s with obj := fs, ocls := c }) : mkD c m ds s = .ok (.ins c (fs.map (·.1)) (fs.map (·.2))) s := by
  unfold mkD
  rw [hc, e]
  rfl
theorem mkD_exc {c c' : Nat} {m : List D → M D} {ds : List D} {s s1 : Pen} {ns : List Str} {xs : List D} (hc : (clearL ds && c != gro) = true) (hx : clearL xs = true) (e : m (.self :: ds) { s with obj := [], ocls := c } = .exc c' ns xs s1) (h1 : { s1 with obj := s.obj, ocls := s.ocls } = s) : mkD c m ds s = .exc c' ns xs s := by
  unfold mkD
  rw [hc, e]
  show (if clearL xs = true then Out.exc c' ns xs { s1 with obj := s.obj, ocls := s.ocls } else .bad) = _
  rw [hx, h1]
  rfl
theorem eqA_int (i j : Int) : eqA (.int i) (.int j) = mret (.bl (decide (i = j))) := rfl
theorem eqA_bl (i j : Bool) : eqA (.bl i) (.bl j) = mret (.bl (decide (i = j))) := rfl
theorem neA_int (i j : Int) : neA (.int i) (.int j) = mret (.bl (!decide (i = j))) := rfl
theorem neA_bl (i j : Bool) : neA (.bl i) (.bl j) = mret (.bl (!decide (i = j))) := rfl
theorem isI_ins (n : Nat) (m : Str) (ns : List Str) (xs : List D) (h : ns.contains m = false) : isI n m (.ins n ns xs) = mret () := by
  unfold isI
  simp only [beq_self_eq_true, Bool.true_and, h, Bool.not_false, if_true]
theorem sseq_nx' {m m' : MS} {ρ ρ' : Loc} {s s' : Pen} {o : OutS} (h : m ρ s = .nx ρ' s') (h2 : m' ρ' s' = o) : sseq m m' ρ s = o := by rw [sseq_nx h]; exact h2
theorem nox_ret {α : Type} (a : α) : nox (mret a) = mret a := rfl
theorem nox_ok {α : Type} {m : M α} {a : α} {s s' : Pen} (h : m s = .ok a s') : nox m s = .ok a s' := by
  unfold nox; rw [h]
theorem p6 : powI (.int 10) (.int 6) = mret (.int 1000000) := rfl
section
variable {ans : String ⊕ Nat → String ⊕ Nat → Option Bool}
theorem isiA_int (i : Int) (T : String) : isiA ans [.int i, .ty T] = isiB [.int i, .ty T] := rfl
theorem isiA_bl (i : Bool) (T : String) : isiA ans [.bl i, .ty T] = isiB [.bl i, .ty T] := rfl
theorem isiA_non (T : String) : isiA ans [.non, .ty T] = isiB [.non, .ty T] := rfl
theorem isiA_str (x : Str) (T : String) : isiA ans [.str x, .ty T] = isiB [.str x, .ty T] := rfl
theorem isiA_tup (xs : List D) (T : String) : isiA ans [.tup xs, .ty T] = isiB [.tup xs, .ty T] := rfl
theorem isiA_lst (xs : List D) (T : String) : isiA ans [.lst xs, .ty T] = isiB [.lst xs, .ty T] := rfl
theorem isiA_ins (n : Nat) (ns : List Str) (xs : List D) (T : String) {b : Bool} (h : ans (.inr n) (.inl T) = some b) : isiA ans [.ins n ns xs, .ty T] = mret (.bl b) := by
  show (match ans (.inr n) (.inl T) with | some b => mret (D.bl b) | none => mbad) = _
  rw [h]
theorem isiA_cls {x : D} {t : String ⊕ Nat} (n : Nat) {b : Bool} (ht : tyTag x = some t) (h : ans t (.inr n) = some b) : isiA ans [x, .cls n] = mret (.bl b) := by
  have e : isiA ans [x, .cls n] = isiO ans [x, .cls n] := by cases x <;> rfl
  rw [e]
  show (match tyTag x with | some t => (match ans t (.inr n) with | some b => mret (D.bl b) | none => mbad) | none => mbad) = _
  rw [ht]
  dsimp only
  rw [h]
end
end Tw

set_option Elab.async false
set_option linter.all false
set_option maxRecDepth 100000
set_option maxHeartbeats 4000000
set_option autoImplicit false
namespace Tw
open PySem L2
theorem toPL_ints : ∀ ns : List Int, toPL (ns.map D.int) = some (ns.map PyData.int)
  | [] => rfl
  | n :: ns => by
    rw [List.map_cons, List.map_cons]
    unfold toPL
    rw [toPL_ints ns]
    rfl
theorem lay_ints : ∀ ns : List Int, PyData.canLayAll0 (ns.map PyData.int) = true
  | [] => by simp [PyData.canLayAll0]
  | n :: ns => by simp [PyData.canLayAll0, PyData.canLay0, lay_ints ns]
theorem depth_ints : ∀ ns : List Int, PyData.depthAll (ns.map PyData.int) ≤ 1
  | [] => by simp [PyData.depthAll]
  | n :: ns => by
    have := depth_ints ns
    simp only [List.map_cons, PyData.depthAll, PyData.depth]
    omega
theorem shaped_tup (ns : List Int) : SeqAt.shaped (.tuple (ns.map PyData.int)) = true := by
  have h := depth_ints ns
  unfold SeqAt.shaped
  rw [Bool.and_eq_true]
  refine ⟨by simp only [PyData.canLay0]; exact lay_ints ns, decide_eq_true ?_⟩
  simp only [PyData.depth]
  omega
theorem shaped_lst (ns : List Int) : SeqAt.shaped (.list (ns.map PyData.int)) = true := by
  have h := depth_ints ns
  unfold SeqAt.shaped
  rw [Bool.and_eq_true]
  refine ⟨by simp only [PyData.canLay0]; exact lay_ints ns, decide_eq_true ?_⟩
  simp only [PyData.depth]
  omega
theorem eqv_ints : ∀ ns ms : List Int, PyData.eqvAll (ns.map PyData.int) (ms.map PyData.int) = decide (ns = ms)
  | [], [] => by simp [PyData.eqvAll]
  | [], m :: ms => by simp [PyData.eqvAll]
  | n :: ns, [] => by simp [PyData.eqvAll]
  | n :: ns, m :: ms => by
    simp only [List.map_cons, PyData.eqvAll, PyData.eqv, eqv_ints ns ms]
    by_cases h : n = m
    · by_cases h2 : ns = ms <;> simp [h, h2]
    · simp [h]
theorem eqT (ns ms : List Int) : eqA (.tup (ns.map D.int)) (.tup (ms.map D.int)) = mret (.bl (decide (ns = ms))) := by
  show eqDat _ _ = _
  have a : toP (.tup (ns.map D.int)) = some (.tuple (ns.map PyData.int)) := by unfold toP; rw [toPL_ints]; rfl
  have b : toP (.tup (ms.map D.int)) = some (.tuple (ms.map PyData.int)) := by unfold toP; rw [toPL_ints]; rfl
  unfold eqDat
  rw [a, b]
  dsimp only
  rw [shaped_tup, shaped_tup, if_pos (show (true && true) = true from rfl)]
  simp only [PyData.eqv, eqv_ints]
theorem eqL (ns ms : List Int) : eqA (.lst (ns.map D.int)) (.lst (ms.map D.int)) = mret (.bl (decide (ns = ms))) := by
  show eqDat _ _ = _
  have a : toP (.lst (ns.map D.int)) = some (.list (ns.map PyData.int)) := by unfold toP; rw [toPL_ints]; rfl
  have b : toP (.lst (ms.map D.int)) = some (.list (ms.map PyData.int)) := by unfold toP; rw [toPL_ints]; rfl
  unfold eqDat
  rw [a, b]
  dsimp only
  rw [shaped_lst, shaped_lst, if_pos (show (true && true) = true from rfl)]
  simp only [PyData.eqv, eqv_ints]
theorem neT (ns ms : List Int) : neA (.tup (ns.map D.int)) (.tup (ms.map D.int)) = mret (.bl (!decide (ns = ms))) := by
  show neDat _ _ = _
  have a : toP (.tup (ns.map D.int)) = some (.tuple (ns.map PyData.int)) := by unfold toP; rw [toPL_ints]; rfl
  have b : toP (.tup (ms.map D.int)) = some (.tuple (ms.map PyData.int)) := by unfold toP; rw [toPL_ints]; rfl
  unfold neDat
  rw [a, b]
  dsimp only
  rw [shaped_tup, shaped_tup, if_pos (show (true && true) = true from rfl)]
  simp only [PyData.eqv, eqv_ints]
theorem neL (ns ms : List Int) : neA (.lst (ns.map D.int)) (.lst (ms.map D.int)) = mret (.bl (!decide (ns = ms))) := by
  show neDat _ _ = _
  have a : toP (.lst (ns.map D.int)) = some (.list (ns.map PyData.int)) := by unfold toP; rw [toPL_ints]; rfl
  have b : toP (.lst (ms.map D.int)) = some (.list (ms.map PyData.int)) := by unfold toP; rw [toPL_ints]; rfl
  unfold neDat
  rw [a, b]
  dsimp only
  rw [shaped_lst, shaped_lst, if_pos (show (true && true) = true from rfl)]
  simp only [PyData.eqv, eqv_ints]
theorem eqT3 (a b c x y z : Int) : eqA (.tup [.int a, .int b, .int c]) (.tup [.int x, .int y, .int z]) = mret (.bl (decide (a = x ∧ b = y ∧ c = z))) := by
  have h := eqT [a, b, c] [x, y, z]
  simpa using h
theorem neT2 (a b x y : Int) : neA (.tup [.int a, .int b]) (.tup [.int x, .int y]) = mret (.bl (!decide (a = x ∧ b = y))) := by
  have h := neT [a, b] [x, y]
  simpa using h
theorem at0 (x : D) (xs : List D) : atI (x :: xs) 0 = some x := atI_nat (j := 0) (show (x :: xs)[0]? = some x by simp)
theorem at1 (x y : D) (xs : List D) : atI (x :: y :: xs) 1 = some y := atI_nat (j := 1) (show (x :: y :: xs)[1]? = some y by simp)
theorem at2 (x y z : D) (xs : List D) : atI (x :: y :: z :: xs) 2 = some z := atI_nat (j := 2) (show (x :: y :: z :: xs)[2]? = some z by simp)
end Tw

set_option Elab.async false
set_option linter.all false
set_option maxRecDepth 100000
set_option maxHeartbeats 4000000
set_option autoImplicit false
namespace Tw
open PySem L2 PySem.Spec PyProof.Rows
section
variable {K : PySem.W.Frag} {G : Gt} {W : WX} {X : Cx}
variable {a b c e : Expr} {es : List Expr} {ta te to tv ti : TE} {fa fe fo fv fi : Loc → M D} {pos : Pos} {tA : TA} {fA : Loc → M (List D)}
/-! ### lists that grow -/
def cleanS (o : Option D) : Option D := match o with
  | some d => if clear d = true then some d else none
  | none => none
theorem EnvOk.cleanS {p q : Fm} {H : Hp} {σ : L2.St} {ρ : Loc} (hp : q.pen = p.pen) (ho : ∀ a o, H a = some o → ¬ p.out a → ¬ q.out a) (e : EnvOk G p H σ ρ) : EnvOk G q H σ (ρ.map Tw.cleanS) := by
  refine ⟨by rw [List.length_map]; exact e.1, fun i d h => ?_⟩
  rw [List.getElem?_map] at h
  cases q1 : ρ[i]? with
  | none => rw [q1] at h; cases h
  | some o =>
    rw [q1] at h
    cases o with
    | none => cases h
    | some d0 =>
      have h' : (if clear d0 = true then some d0 else none) = some d := Option.some.inj h
      by_cases hc : clear d0 = true
      · rw [if_pos hc] at h'
        cases h'
        obtain ⟨v, h1, h2⟩ := e.2 i d q1
        exact ⟨v, h1, rep_move rfl hp ho d v hc h2⟩
      · rw [if_neg hc] at h'; cases h'
/-- a reading that makes a new list -/
def RunF (G : Gt) (W : WX) (te : TE) (f : Loc → M (List D)) : Prop :=
  ∀ (p : Fm) (σ : L2.St) (H : Hp) (ρ : Loc) (s : Pen) (Q : VK), EnvOk G p H σ ρ → PenOk G p H s →
    (match f ρ s with
      | .ok ds s' => ∀ H2 vs a, H a = none → Keep p H H2 → PenOk G (p.add a) H2 s' → RepL G (p.add a) H2 ds vs → H2 a = some (.lst vs) → Q (.ref a) H2
      | .exc c ns xs s' => ∀ dd H', Keep p H H' → PenOk G p H' s' → ExcOk G p H' ns xs dd → W (.ref (G.cls c)) dd σ H'
      | .bad => False) → te σ H Q
def few (ds : List D) : M (List D) := if decide (ds.length ≤ 100000) = true then mret ds else mbad
theorem keep_free {p : Fm} {H H1 : Hp} {a : Addr} (h : H1 a = none) (k : Keep p H H1) (pk : ∀ b, p.out b → ∃ o, H1 b = some o) : H a = none := by
  cases q : H a with
  | none => rfl
  | some o =>
    by_cases hm : p.mut a
    · obtain ⟨o', e⟩ := pk a (Classical.byContradiction fun z => (Fm.no z) hm)
      rw [h] at e; cases e
    · have := k a o hm q
      rw [h] at this; cases this
theorem fresh_go {p : Fm} {H H1 : Hp} {s1 : Pen} {ds : List D} {vs : List V} {Q : VK} (k1 : Keep p H H1) (pk1 : PenOk G p H1 s1) (rs : RepL G p H1 ds vs)
    (fin : ∀ H2 vs a, H a = none → Keep p H H2 → PenOk G (p.add a) H2 s1 → RepL G (p.add a) H2 ds vs → H2 a = some (.lst vs) → Q (.ref a) H2) (a : Addr) (ha : H1 a = none) : Q (.ref a) (upd H1 a (.lst vs)) := by
  have h0 : H a = none := keep_free ha k1 pk1.2.2
  have k2 : Keep p H1 (upd H1 a (.lst vs)) := Keep.new ha
  refine fin _ vs a h0 (k1.trans k2) (pk1.add ha) ?_ upd_same
  exact repL_keep trivial (Keep.new ha) _ _ (repL_out (p := p) (q := p.add a) rfl rfl (fun b o e h z => z.elim h fun z => ne_of_none e ha z) _ _ rs)
theorem runf_lst (ha : RunG G W (RelA G) tA fA) : RunF G W (tLst tA) (fun ρ => mbind (fA ρ) few) := by
  intro p σ H ρ s Q e pk fin
  refine ha p σ H ρ s _ e pk ?_
  have fin' : (match obind (fA ρ s) few with
      | .ok ds s' => ∀ H2 vs a, H a = none → Keep p H H2 → PenOk G (p.add a) H2 s' → RepL G (p.add a) H2 ds vs → H2 a = some (.lst vs) → Q (.ref a) H2
      | .exc c ns xs s' => ∀ dd H', Keep p H H' → PenOk G p H' s' → ExcOk G p H' ns xs dd → W (.ref (G.cls c)) dd σ H'
      | .bad => False) := fin
  cases q : fA ρ s with
  | bad => rw [q] at fin'; exact fin'
  | exc c ns xs s1 => rw [q] at fin'; exact fin'
  | ok ds s1 =>
    rw [q] at fin'
    intro vs H1 k1 pk1 rs
    by_cases hl : ds.length ≤ 100000
    · have hf : obind (Out.ok ds s1) few = .ok ds s1 := by show few ds s1 = _; unfold few; rw [if_pos (decide_eq_true hl)]; rfl
      rw [hf] at fin'
      exact ⟨by rw [← repL_len rs]; exact Nat.le_trans hl (by decide), fun a ha => fresh_go k1 pk1 rs fin' a ha⟩
    · have hf : obind (Out.ok ds s1) few = .bad := by show few ds s1 = _; unfold few; rw [if_neg (by simp [hl])]; rfl
      rw [hf] at fin'; exact False.elim fin'
def sGrow (n : Nat) (f : Loc → M (List D)) (mb : MS) : MS := fun ρ s => sof (f ρ s) ρ fun ds s1 => if (clearL ds && decide (n < ρ.length)) = true then
    (match mb ((ρ.map cleanS).set n (some .self)) { s1 with obj := ds.map (fun d => ("", d)), ocls := gro } with
    | .nx ρ2 s2 => (match ρ2[n]? with
      | some (some .self) => .nx ((ρ2.map cleanS).set n (some (.lst (s2.obj.map (·.2))))) { s2 with obj := s1.obj, ocls := s1.ocls }
      | _ => .bad)
    | .ret d s2 => if clear d = true then .ret d { s2 with obj := s1.obj, ocls := s1.ocls } else .bad
    | .exc c ns xs ρ2 s2 => if clearL xs = true then .exc c ns xs ((ρ2.map cleanS).set n none) { s2 with obj := s1.obj, ocls := s1.ocls } else .bad
    | _ => .bad) else .bad
theorem EnvOk.unset' {p : Fm} {H : Hp} {σ : L2.St} {ρ : Loc} {i : Nat} (e : EnvOk G p H σ ρ) : EnvOk G p H σ (ρ.set i none) := by
  refine ⟨by rw [List.length_set]; exact e.1, fun j d h => ?_⟩
  rw [List.getElem?_set] at h
  by_cases hij : i = j
  · subst hij
    simp only [if_true] at h
    split at h <;> cases h
  · rw [if_neg hij] at h
    exact e.2 j d h
theorem EnvOk.setAt {p : Fm} {H : Hp} {σ : L2.St} {ρ : Loc} {i : Nat} {d : D} {v : V} (e : EnvOk G p H σ ρ) (hv : σ[i]? = some (some v)) (r : Rep G p H d v) : EnvOk G p H σ (ρ.set i (some d)) := by
  refine ⟨by rw [List.length_set]; exact e.1, fun j d' h => ?_⟩
  rw [List.getElem?_set] at h
  by_cases hij : i = j
  · subst hij
    simp only [if_true] at h
    split at h
    · cases h; exact ⟨v, hv, r⟩
    · cases h
  · rw [if_neg hij] at h
    exact e.2 j d' h
theorem run_grow {n : Nat} {te : TE} {f : Loc → M (List D)} {tb : TS} {mb : MS} (hi : RunF G W te f) (hb : RunS G W tb mb) : RunS G W (tSeq (tAsg te (gName n)) tb) (sGrow n f mb) := by
  intro p σ H ρ s Z e pk fin
  refine hi p σ H ρ s _ e pk ?_
  unfold sGrow at fin
  cases qf : f ρ s with
  | bad => rw [qf] at fin; exact fin
  | exc c ns xs s1 => rw [qf] at fin; exact fun dd H' k pk' x => fin dd σ H' k pk' (e.keep pk.at k) x
  | ok ds s1 =>
    rw [qf] at fin
    replace fin : FinS G W p H Z (if (clearL ds && decide (n < ρ.length)) = true then _ else OutS.bad) := fin
    intro H2 vs a ha k2 pk2 rs hH
    by_cases hcn : ¬ (clearL ds && decide (n < ρ.length)) = true
    · rw [if_neg hcn] at fin; exact False.elim fin
    have hc0 := Decidable.not_not.mp hcn
    rw [if_pos hc0] at fin
    rw [Bool.and_eq_true] at hc0
    have hc := hc0.1
    have hn : n < ρ.length := of_decide_eq_true hc0.2
    have hne : ∀ b kd, p.pen = some (b, kd) → a ≠ b := fun b kd eb z => by
      obtain ⟨o, eo⟩ := pk.2.2 b (p.okp b kd eb)
      rw [← z, ha] at eo; cases eo
    have hnp : ¬ p.out a := pk.free ha
    have w1 : ∀ b o, H2 b = some o → ¬ (p.add a).out b → ¬ (p.mk' a gro a hne).out b := fun b o _ h => h
    have hN : upd H2 a (.lst vs) = H2 := by
      funext b
      by_cases z : b = a
      · subst z; rw [upd_same, hH]
      · rw [upd_ne z]
    have e2 : EnvOk G (p.add a) H2 σ ρ := (e.out (wider_add ha)).keep trivial (fun b o h1 h2 => k2 b o (fun z => h1 (by rcases z with ⟨kd, z⟩ | ⟨c, d, z⟩; exact .inl ⟨kd, z⟩; exact .inr ⟨c, d, z⟩)) h2)
    have e3 : EnvOk G (p.mk' a gro a hne) H2 (σ.set n (some (.ref a))) ((ρ.map cleanS).set n (some .self)) := (e2.cleanS (p := p.add a) (q := p.mk' a gro a hne) rfl w1).set ⟨a, gro, a, rfl, rfl⟩
    have pk3 : PenOk G (p.mk' a gro a hne) H2 { s1 with obj := ds.map (fun d => ("", d)), ocls := gro } := by
      refine ⟨fun b kd eb => ?_, fun y c' d' ey => ?_, fun b hb => pk2.2.2 b hb⟩
      · rcases pk2.1 b kd eb with ⟨e1, e2⟩ | ⟨e1, c0, z0, z1, z2⟩
        · exact .inl ⟨e1, e2⟩
        · exact .inr ⟨e1, c0, z0, z1, z2⟩
      · cases ey
        have hm2 : (ds.map (fun d => (("" : Str), d))).map (·.2) = ds := by rw [List.map_map]; exact List.map_id' ds
        refine ⟨vs, by rw [show objO G gro a _ vs = .lst vs from if_pos rfl]; exact hH, ⟨by rw [List.length_map]; exact repL_len rs, ?_, rfl⟩, ?_⟩
        · show clearL ((ds.map (fun d => (("" : Str), d))).map (·.2)) = true
          rw [hm2]; exact hc
        · show RepL G.bare _ H2 ((ds.map (fun d => (("" : Str), d))).map (·.2)) vs
          rw [hm2]
          exact repL_move (G := G) (G' := G.bare) (p := p.add a) (q := p.mk' a gro a hne) rfl rfl w1 _ _ hc rs
    have back : ∀ (H' : Hp) (s2 : Pen), Keep (p.mk' a gro a hne) H2 H' → PenOk G (p.mk' a gro a hne) H' s2 → Keep p H H' ∧ PenOk G p H' { s2 with obj := s1.obj, ocls := s1.ocls } := by
      intro H' s2 k' pk'
      have hk : ∀ b o, b ≠ a → (∀ kd, p.pen ≠ some (b, kd)) → H2 b = some o → H' b = some o := fun b o hb n e => k' b o (fun z => z.elim (fun ⟨kd, z⟩ => n kd z) fun ⟨c', d', z⟩ => hb (by cases z; rfl)) e
      have hbn : ∀ b o, H b = some o → b ≠ a := fun b o e z => by rw [z, ha] at e; cases e
      refine ⟨fun b o n e => hk b o (hbn b o e) (fun kd z => n (.inl ⟨kd, z⟩)) (k2 b o n e), fun b kd eb => ?_, fun y c' d' ey => ?_, fun b hb => pk'.2.2 b (.inl hb)⟩
      · rcases pk'.1 b kd eb with ⟨e1, e2⟩ | ⟨e1, c0, z0, z1, z2⟩
        · exact .inl ⟨e1, e2⟩
        · exact .inr ⟨e1, c0, fun z => z0 (.inl z), z1, z2⟩
      · obtain ⟨us, h1, hl, h2⟩ := pk2.2.1 y c' d' ey
        have hya : y ≠ a := fun z => hnp (by rw [← z]; exact p.oko y c' d' ey)
        refine ⟨us, hk y _ hya (fun kd z => p.neo y kd y c' d' z ey rfl) h1, hl, ?_⟩
        have h3 : RepL G.bare (p.mk' a gro a hne) H2 (s1.obj.map (·.2)) us := repL_move (G := G.bare) (G' := G.bare) (p := p.add a) (q := p.mk' a gro a hne) rfl rfl w1 _ _ hl.2.1 h2
        have h4 := repL_keep trivial k' _ _ h3
        exact repL_move (G := G.bare) (G' := G.bare) (p := p.mk' a gro a hne) (q := p) rfl rfl (fun b o _ h z => h (.inl z)) _ _ hl.2.1 h4
    refine hb (p.mk' a gro a hne) _ H2 _ _ Z e3 pk3 ?_
    cases qm : mb ((ρ.map cleanS).set n (some .self)) { s1 with obj := ds.map (fun d => ("", d)), ocls := gro } with
    | bad => rw [qm] at fin; exact False.elim fin
    | bk ρ2 s2 => rw [qm] at fin; exact False.elim fin
    | ct ρ2 s2 => rw [qm] at fin; exact False.elim fin
    | ret d s2 =>
      rw [qm] at fin
      dsimp only at fin
      by_cases hd : clear d = true
      · rw [if_pos hd] at fin
        intro v H' k' pk' rd
        obtain ⟨kp, pkp⟩ := back H' s2 k' pk'
        exact fin v H' kp pkp (rep_move (p := p.mk' a gro a hne) (q := p) rfl rfl (fun b o _ h z => h (.inl z)) d v hd rd)
      · rw [if_neg hd] at fin; exact False.elim fin
    | exc c ns xs ρ2 s2 =>
      rw [qm] at fin
      dsimp only at fin
      by_cases hd : clearL xs = true
      · rw [if_pos hd] at fin
        intro dd σ' H' k' pk' e' x'
        obtain ⟨kp, pkp⟩ := back H' s2 k' pk'
        refine fin dd σ' H' kp pkp (e'.cleanS (p := p.mk' a gro a hne) (q := p) rfl (fun b o _ h z => h (.inl z))).unset' ?_
        obtain ⟨us, ru, xd⟩ := x'
        refine ⟨us, repL_move (G := G) (G' := G) (p := p.mk' a gro a hne) (q := p) rfl rfl (fun b o _ z y => z (.inl y)) _ _ hd ru, ?_⟩
        rcases xd with xd | ⟨b, gs, e0, e1, e2, e3, e4⟩
        · exact .inl xd
        · exact .inr ⟨b, gs, e0, e1, fun z => e2 (.inl z), e3, e4⟩
      · rw [if_neg hd] at fin; exact False.elim fin
    | nx ρ2 s2 =>
      rw [qm] at fin
      dsimp only at fin
      split at fin
      · rename_i hself
        intro σ' H' k' pk' e'
        obtain ⟨kp, pkp⟩ := back H' s2 k' pk'
        obtain ⟨v, hv, ⟨a', c', d', ea, rfl⟩⟩ := e'.2 n .self hself
        cases ea
        obtain ⟨us, h1, hl, h2⟩ := pk'.2.1 a gro a rfl
        rw [show objO G gro a (s2.obj.map (·.1)) us = .lst us from if_pos rfl] at h1
        refine fin σ' H' kp pkp ((e'.cleanS (p := p.mk' a gro a hne) (q := p) rfl (fun b o _ h z => h (.inl z))).setAt hv ?_)
        exact ⟨a, us, rfl, hnp, h1, repL_move (G := G.bare) (G' := G) (p := p.mk' a gro a hne) (q := p) rfl rfl (fun b o _ h z => h (.inl z)) _ _ hl.2.1 h2⟩
      · exact False.elim fin
end
end Tw

set_option Elab.async false
set_option linter.all false
set_option maxRecDepth 100000
set_option maxHeartbeats 4000000
set_option autoImplicit false
namespace Tw
open PySem L2 PySem.Spec PyProof.Rows
/-! ### != by an own == -/
section
open PySem.W
variable {prog : Program} {w : World} {A : Around} {E : Value → Shared → Prop} {s : Shared} {K : Frag} {x C f : Addr} {ox : Obj} {od : Option Obj} {b tb : Value}
theorem bound_blt {M : Model} {name : Str} {id : String} {args : List Value} {Q : Option Value → Shared → Prop} (X : K.In s.heap) (I : InstAt s.heap x ox C od) (hs : findIn K (.ref C) name = some (some (.builtin id))) (hb : bindSpecial (.builtin id) (.ref x) = pure (.builtin id, [.ref x]))
    (h : wpAny M A (call (.builtin id) (.ref x :: args)) (fun v => Q (some v)) E s) : wpAny M A (callSpecialIfBound? (.ref x) name args) Q E s := by
  have go : wpAny M A (call (.builtin id) ([.ref x] ++ args) >>= fun v => (pure (some v) : Sem (Option Value))) Q E s := wpAny_bind (wpAny_mono h (fun _ _ z => wpAny_pure z) fun _ _ z => z)
  simp only [callSpecialIfBound?, bindSpecialIfBound?, hb]
  apply wpAny_holding
  apply wpAny_bind
  apply wpAny_bind
  refine wpAny_bind (I.type.here ((looks_findIn X hs).here ?_))
  refine wpAny_bind (wpAny_askSetting (wpAny_ite ?_))
  split
  · exact wpAny_bind (by rw [hb]; exact wpAny_pure (wpAny_pure go))
  · exact wpAny_tryCatch (wpAny_bind (by rw [hb]; exact wpAny_pure (wpAny_pure go)))
theorem ne_entry (X : K.In s.heap) (I : InstAt s.heap x ox C od) (he : findIn K (.ref C) "__eq__" = some (some (.ref f))) (hf : isFn K (.ref f) = true) (hu : A.units < cLine) {Q : Fin → Shared → Prop}
    (hcall : wpAny (model prog w) A (call (.ref f) [.ref x, b]) (fun v s' => ∃ r, v = .bool r ∧ Q (.done (.ret (.bool (!r)))) s') E s) :
    wpAny (model prog w) A (Builtin.«object.__ne__» ⟨[.ref x, b], []⟩) Q E s := by
  unfold Builtin.«object.__ne__»
  repeat (first
    | with_reducible refine wpAny_cRoomFor hu ?_
    | (refine wpAny_bind (m := callSpecialIfBound? (.ref x) (Str.ofString "__eq__") [b])
        (ifBound_K X I he hf (wpAny_mono hcall (fun r s' hr => by
          obtain ⟨r, rfl, hq⟩ := hr
          repeat (first | exact hq | exact wpAny_pure hq | exact wpAny_truthy_bool hq | (refine wpAny_bind (m := truthy (.bool _)) (wpAny_truthy_bool ?_)) | wp_step)) fun _ _ e => e)))
    | wp_step)
theorem rc_ne (X : K.In s.heap) (I : InstAt s.heap x ox C od) (hb : Looks (model prog w) s.heap (typeOf b) tb) (hn : notFirst K C tb = true) (he : findIn K (.ref C) "__eq__" = some (some (.ref f))) (hf : isFn K (.ref f) = true)
    (hne : findIn K (.ref C) "__ne__" = some (some (.builtin "object.__ne__"))) (hso : subIn K (.ref C) (.type "object") = some true) (hu : A.units + 1 < cLine) {Q : Value → Shared → Prop}
    (hcall : wpAny (model prog w) A.in1 (call (.ref f) [.ref x, b]) (fun v s' => ∃ r, v = .bool r ∧ Q (.bool (!r)) s') E s) : wpAny (model prog w) A (richCompare .NotEq (.ref x) b) Q E s := by
  have L0 := I.type (M := model prog w)
  have sub : Looks (model prog w) s.heap (isInstance (.ref x) (.type "object")) true := L0.andThen (looks_subIn X hso)
  have one : wpAny (model prog w) A (tryCompare (.ref x) "__ne__" b) (fun r s' => ∃ v, r = some v ∧ Q v s') E s := by
    simp only [tryCompare]
    refine wpAny_bind (bound_blt X I hne (F.cmp_object.ne.bind _) (wpAny_call (codeAny_call_builtin F.cmp_object.ne.plain F.cmpEntry_ne ?_)))
    refine PySem.W.check_slot (i := "object.__ne__") (owner := "object") (n := "__ne__") F.cmpKind_ne F.cmpSplit_ne sub (F.cmpArgs_ne _ _) ?_
    refine ne_entry (A := A.in1) X I he hf hu (wpAny_mono hcall (fun v s' hv => ?_) fun _ _ e => e)
    obtain ⟨r, rfl, hq⟩ := hv
    first | exact ⟨r, rfl, wpAny_pure ⟨_, rfl, hq⟩⟩ | exact ⟨r, rfl, _, rfl, hq⟩
  have fin : ∀ (r : Option Value) (s' : Shared), (∃ v, r = some v ∧ Q v s') → ∃ v, r = some v ∧ Q v s' := fun _ _ z => z
  unfold richCompare
  simp only [oneThing_ref]
  apply wpAny_holding
  refine wpAny_bind (wpAny_cRoomFor (Nat.lt_of_succ_lt hu) ?_)
  rw [cmpInfo_NotEq]
  dsimp only
  refine wpAny_bind (L0.here (wpAny_bind (hb.here ?_)))
  have last : ∀ m : Sem Value, wpAny (model prog w) A (tryCompare (.ref x) "__ne__" b >>= fun r => match r with | some v => pure v | none => m) Q E s := fun m => by
    refine wpAny_bind (wpAny_mono one (fun r s' z => ?_) fun _ _ e => e)
    obtain ⟨v, rfl, hq⟩ := z
    exact wpAny_pure hq
  split
  · rename_i q
    have e2 : subIn K tb (.ref C) = some false := by
      unfold notFirst at hn
      rw [Bool.or_eq_true] at hn
      cases hn with
      | inl e => rw [beq_iff_eq.mp e] at q; simp at q
      | inr e => exact beq_iff_eq.mp e
    refine wpAny_bind ((looks_subIn X e2).here ?_)
    simp only [Bool.false_eq_true, if_false]
    refine wpAny_bind (wpAny_mono one (fun r s' z => ?_) fun _ _ e => e)
    obtain ⟨v, rfl, hq⟩ := z
    exact wpAny_pure hq
  · refine wpAny_bind (wpAny_pure ?_)
    simp only [Bool.false_eq_true, if_false]
    refine wpAny_bind (wpAny_mono one (fun r s' z => ?_) fun _ _ e => e)
    obtain ⟨v, rfl, hq⟩ := z
    exact wpAny_pure hq
end
section
variable {K : PySem.W.Frag} {G : Gt} {W : WX} {X : Cx}
/-- what of a class is wanted for its own != -/
structure One (K : PySem.W.Frag) (C : Addr) : Prop where
  ne : PySem.W.findIn K (.ref C) "__ne__" = some (some (.builtin "object.__ne__"))
  so : PySem.W.subIn K (.ref C) (.type "object") = some true
variable {C g : Addr} {fd : FuncData} {ps : List Str} {k n : Nat} {sp : Sp} {md : List D → M D}
theorem run_in1 {pins : List (Addr × Obj)} {σ : L2.St} {H : Hp} {s : Shared} {Q : VK} {us : List Value} {vs : List V} (F : FnOk X.prog X.w X.K X.mg X.base (L2.CX X.prog X.w) k g fd ps sp) (hr : Room (k + 1) X.A) (hb : L2.Binds X.K fd ps [])
    (I : Inv X pins σ H s) (r : Vals vs us) (h : sp vs H Q (fun _ _ _ => False)) : wpAny (model X.prog X.w) X.A.in1 (call (.ref g) us) (EP X pins σ Q) X.xe s := by
  have hl : (us ++ []).length = ps.length := by
    rw [List.append_nil, ← r.length]
    exact F.len _ _ _ _ h
  have hb' := hb s us I.kIn hl
  rw [List.append_nil] at hb'
  apply wpAny_call
  refine codeAny_mono (F.run X.A.in1 X.stack s H ⟨us, []⟩ us vs Q (fun _ _ _ => False) hr.in1 I.env0.in1 hb' r h) fun q s' hq => ?_
  cases q with
  | error e => exact passL pins σ H s e s' I hq
  | ok fl => cases fl <;> first | exact I.after hq | exact False.elim hq
def rOne (G : Gt) (K : PySem.W.Frag) (C : Addr) (sp : Sp) : R2 := fun x y H Q => ∃ a dx fs p d t, x = .ref a ∧ H a = some (.ins C dx fs) ∧ Rep G p H d y ∧ tyTag d = some t ∧ PySem.W.notFirst K C (tyV G t) = true ∧ sp [x, y] H (fun v H' => ∃ b, v = .bl b ∧ Q (.bl (!b)) H') (fun _ _ _ => False)
theorem op_one (hK : X.K = K) (M : Oeq X.K C g fd ps) (N : One X.K C) (F : FnOk X.prog X.w X.K X.mg X.base (L2.CX X.prog X.w) k g fd ps sp) (hr : Room (k + 1) X.A) (hu : X.A.units + 1 < cLine) : OpR X (compareOp .NotEq) (rOne G K C sp) := by
  subst hK
  intro pins s σ H x y v u Q I rx ry h
  obtain ⟨a, dx, fs, p, d, t, rfl, ha, rd, ht, hn, q⟩ := h
  obtain rfl : v = Value.ref a := rx
  obtain ⟨ox, od, J⟩ := inst_of I ha
  show wpAny _ _ (richCompare .NotEq (.ref a) u) _ _ _
  refine rc_ne I.kIn J (ty_looks I rd ry ht) hn M.at_ M.isf N.ne N.so hu (wpAny_mono (run_in1 F hr M.b I (.cons (show L2.RelV (.ref a) (Value.ref a) from rfl) (.cons ry .nil)) q) (fun r s' z => ?_) fun _ _ z => z)
  obtain ⟨w, H', I', rw', b, rfl, q'⟩ := z
  exact ⟨b, rw', .bl (!b), H', I', rfl, q'⟩
def notR (d : D) : M D := match d with
  | .bl b => mret (.bl (!b))
  | _ => mbad
def oneB (n : Nat) (ok : String ⊕ Nat → Bool) (md : List D → M D) : D → D → M D := fun x y => match x with
  | .ins k _ _ => (match tyTag y with
    | some t => if (k == n && ok t) = true then mbind (nox (md [x, y])) notR else mbad
    | none => mbad)
  | _ => mbad
theorem prim_one {ok : String ⊕ Nat → Bool} (hok : ∀ t, ok t = true → PySem.W.notFirst K (G.cls n) (tyV G t) = true) : Prim2 G (rOne G K (G.cls n) (spM G 2 md)) (oneB n ok md) := by
  intro W p σ H s x y vx vy Q pk rx ry fin
  unfold oneB at fin
  cases x <;> try (exact False.elim fin)
  rename_i kx nx xs
  dsimp only at fin
  cases ht : tyTag y with
  | none => rw [ht] at fin; exact False.elim fin
  | some t =>
    rw [ht] at fin
    dsimp only at fin
    split at fin
    · rename_i hk
      rw [Bool.and_eq_true] at hk
      obtain rfl : kx = n := beq_iff_eq.mp hk.1
      obtain ⟨a, dx, vs, rfl, a0, a1, al, as⟩ := id rx
      refine ⟨a, dx, _, p, y, t, rfl, a1, ry, ht, hok t hk.2, rfl, p, [.ins _ nx xs, y], s, ⟨_, _, rfl, rx, _, _, rfl, ry, rfl⟩, pk, ?_⟩
      have fin' : FinG G W (RelE G) p σ H Q (obind (nox (md [.ins kx nx xs, y]) s) notR) := fin
      unfold nox at fin'
      cases q : md [.ins kx nx xs, y] s with
      | bad => rw [q] at fin'; exact False.elim fin'
      | exc c ns zs s1 => rw [q] at fin'; exact False.elim fin'
      | ok d s1 =>
        rw [q] at fin'
        cases d <;> try (exact False.elim fin')
        rename_i b
        intro v H' k' pk' rv
        obtain rfl : v = .bl b := rv
        exact ⟨b, rfl, fin' _ H' k' pk' rfl⟩
    · exact False.elim fin
/-! ### a block behind which more may stand -/
structure DB (G : Gt) (X : Cx) (W : WX) (sts : List Stmt) (t : TS) (m : MS) : Prop where
  app : ∀ rest tr, PSs X rest tr → PSs X (sts ++ rest) (tSeq t tr)
  run : RunS G W t m
variable {st : Stmt} {sts rest : List Stmt} {t u tr : TS} {m m' mr : MS}
theorem db_one (d : DS G X W st t m) : DB G X W [st] t m := ⟨fun _ _ h => pss_cons d.ps h, d.run⟩
theorem db_cons (d : DS G X W st t m) (b : DB G X W sts u m') : DB G X W (st :: sts) (tSeq t u) (sseq m m') :=
  ⟨fun rest tr h => (pss_cons d.ps (b.app rest tr h) : PSs X (st :: (sts ++ rest)) (tSeq t (tSeq u tr))), run_seq d.run b.run⟩
theorem dss_app (b : DB G X W sts t m) (r : DSs G X W rest tr mr) : DSs G X W (sts ++ rest) (tSeq t tr) (sseq m mr) := ⟨b.app rest tr r.ps, run_seq b.run r.run⟩
theorem dss_all (b : DB G X W sts t m) : DSs G X W sts (tSeq t tNext) (sseq m (fun ρ s => .nx ρ s)) := by
  have h := dss_app b (dss_nil (G := G) (X := X) (W := W))
  rwa [List.append_nil] at h
theorem db_grow {n : Nat} {te : TE} {f : Loc → M (List D)} {tb : TS} {mb : MS} (d : PS X st (tAsg te (gName n))) (hi : RunF G W te f) (b : DB G X W sts tb mb) : DB G X W (st :: sts) (tSeq (tAsg te (gName n)) tb) (sGrow n f mb) :=
  ⟨fun rest tr h => (pss_cons d (b.app rest tr h) : PSs X (st :: (sts ++ rest)) (tSeq (tAsg te (gName n)) (tSeq tb tr))), run_grow hi b.run⟩
/-! ### what is done to a list that grows -/
section
variable {o e i value : Expr} {to te ti tv : TE} {fo fe fi fv : Loc → M D} {pos pos' apos cpos : Pos}
/-- the growing list's own heap -/
theorem gro_at {p : Fm} {H : Hp} {s : Pen} {v : V} (pk : PenOk G p H s) (r : Rep G p H .self v) (hg : s.ocls = gro) : ∃ a dx vs, p.obj = some (a, gro, dx) ∧ v = .ref a ∧ H a = some (.lst vs) ∧ s.obj.length = vs.length ∧ clearL (s.obj.map (·.2)) = true ∧ RepL G.bare p H (s.obj.map (·.2)) vs := by
  obtain ⟨a, c, dx, ea, rfl⟩ := r
  obtain ⟨vs, h1, ⟨hl, hc, e⟩, rs⟩ := pk.2.1 a c dx ea
  rw [hg] at e
  subst e
  rw [show objO G gro dx _ vs = .lst vs from if_pos rfl] at h1
  exact ⟨a, dx, vs, ea, rfl, h1, hl, hc, rs⟩
theorem pen_gro {p : Fm} {H : Hp} {s : Pen} {a dx : Addr} {os : List (Str × D)} {us : List V} (pk : PenOk G p H s) (ea : p.obj = some (a, gro, dx)) (hg : s.ocls = gro) (hl : os.length = us.length) (hc : clearL (os.map (·.2)) = true) (rs : RepL G.bare p H (os.map (·.2)) us) :
    Keep p H (upd H a (.lst us)) ∧ PenOk G p (upd H a (.lst us)) { s with obj := os } := by
  have ho : p.out a := p.oko a _ dx ea
  refine ⟨fun b o nb eb => by rw [upd_ne (fun z => nb (.inr ⟨_, dx, by rw [z]; exact ea⟩))]; exact eb, fun b kd eb => ?_, fun x' c' dx' e' => ?_, fun b hb => ?_⟩
  · have hba : b ≠ a := Ne.symm (p.neo b kd _ _ _ eb ea)
    have hp2 : PenR p H b kd { s with obj := os } := pk.1 b kd eb
    exact hp2.keep (upd_ne hba) fun c u hc eh => by rw [upd_ne (fun z => hc (by rw [z]; exact ho))]; exact eh
  · have e3 : (a, gro, dx) = (x', c', dx') := Option.some.inj (ea.symm.trans e')
    cases e3
    refine ⟨us, by rw [show objO G gro dx _ us = .lst us from if_pos rfl]; exact upd_same, ⟨hl, hc, hg.symm⟩, repL_upd ho _ _ rs⟩
  · by_cases z : b = a
    · subst z; exact ⟨_, upd_same⟩
    · rw [upd_ne z]; exact pk.2.2 b hb
def gApp (fo fe : Loc → M D) : MS := fun ρ s => sof (fo ρ s) ρ fun x s1 => match x with
  | .self => if (s1.ocls == gro) = true then sof (fe ρ s1) ρ fun d s2 => (if (s2.ocls == gro && clear d && decide (s2.obj.length < 100000)) = true then .nx ρ { s2 with obj := s2.obj ++ [(("" : Str), d)] } else .bad) else .bad
  | _ => .bad
theorem ds_append (ho : DE G X W o to fo) (he : DE G X W e te fe)
    (hbase : attributeBase o "append" X.env (eval o X.env) = eval o X.env := by rfl)
    (hfew : ((backTo cpos (starEach [e] X.env)).all (fun x => !x.1) && (backToKw cpos (keywordEach [] X.env)).all (fun x => x.1.isSome)
      && decide ([e].length + ([] : List Keyword).length + (if ([] : List Keyword).isEmpty then 0 else 1) < 30)) = true := by rfl)
    (hline : (apos.endLine == cpos.line) = true := by rfl) (hst : starEach [e] X.env = (false, eval e X.env) :: starEach [] X.env := by rfl) (hplain : (backTo cpos (starEach [] X.env)).any (·.1) = false := by rfl)
    (hs : swapsWith (.Call (.Attribute o "append" apos) [e] [] cpos) none pos.line X.env = pure false := by rfl) :
    DS G X W (.Expr (.Call (.Attribute o "append" apos) [e] [] cpos) pos) (tDrop (tBM X.K "list" rAppend to (tCons te tNil))) (gApp fo fe) := by
  refine ⟨ps_expr (pe_bm PySem.F.plainAttrs_list PySem.F.slot_list_append PySem.F.type_list_append mt_append ho.pe (pa_cons he.pe pa_nil hst) hbase hfew hline hst hplain) hs, fun p σ H ρ s Z en pk fin => ?_⟩
  refine ho.run p σ H ρ s _ en pk (FinS.step fin (fun H1 s1 k1 pk1 => en.keep pk.at k1) fun x s1 vx H1 k1 pk1 rx fin1 => ?_)
  have e1 := en.keep pk.at k1
  cases x <;> first
    | exact False.elim fin1
    | skip
  dsimp only at fin1
  split at fin1
  · rename_i hg
    have hg1 : s1.ocls = gro := beq_iff_eq.mp hg
    obtain ⟨a, dx, vs, ea, rfl, h1, _, _, _⟩ := gro_at pk1 rx hg1
    refine ⟨.inl ⟨rfl, vs, SqL.of h1⟩, ?_⟩
    refine he.run p σ H1 ρ s1 _ e1 pk1 (FinS.step fin1 (fun H2 s2 k2 pk2 => e1.keep pk1.at k2) fun d s2 vd H2 k2 pk2 rd fin2 => ?_)
    split at fin2
    · rename_i hok
      simp only [Bool.and_eq_true, beq_iff_eq, decide_eq_true_eq] at hok
      obtain ⟨⟨hg2, hcd⟩, hlen⟩ := hok
      obtain ⟨a', dx', us, ea', e3, h2, hl, hc, rs⟩ := gro_at pk2 (rep_keep pk1.at k2 .self (.ref a) rx) hg2
      cases e3
      have ho : p.out a := p.oko a _ dx' ea'
      refine ⟨a, us, vd, rfl, rfl, h2, by rw [← hl]; exact Nat.lt_trans hlen (by decide), ?_⟩
      have q := pen_gro (os := s2.obj ++ [(("" : Str), d)]) (us := us ++ [vd]) pk2 ea' hg2 (by simp [hl]) (by rw [List.map_append, clearL_app, hc]; simp [clearL, hcd])
        (by
          rw [show (s2.obj ++ [(("" : Str), d)]).map (·.2) = s2.obj.map (·.2) ++ [d] by simp]
          exact repL_app (es := [d]) (us := [vd]) rs ⟨vd, [], rfl, rep_move (G := G) (G' := G.bare) rfl rfl (fun _ _ _ z => z) d vd hcd rd, rfl⟩)
      exact fin2 σ _ q.1 q.2 ((e1.keep pk1.at k2).keep pk2.at q.1)
    · exact False.elim fin2
  · exact False.elim fin1
end
end
end Tw

set_option Elab.async false
set_option linter.all false
set_option maxRecDepth 100000
set_option maxHeartbeats 4000000
set_option autoImplicit false
namespace Tw
open PySem L2 PySem.Spec PyProof.Rows
section
variable {K : PySem.W.Frag} {G : Gt} {W : WX} {X : Cx}
variable {a b c e : Expr} {es : List Expr} {ta tb te to tv ti : TE} {fa fb fe fo fv fi : Loc → M D} {pos : Pos} {tA : TA} {fA : Loc → M (List D)}
/-! ### comprehensions with a test -/
structure DTs (G : Gt) (X : Cx) (W : WX) (ifs : List Expr) (t : TT) (m : Loc → M Bool) : Prop where
  pts : PTs X ifs t
  run : RunG G W RelB t m
theorem dts_nil : DTs G X W [] tYes (fun _ => mret true) := ⟨pts_nil, run_yes⟩
theorem dts_one {t : TT} {m : Loc → M Bool} (h : DT G X W c t m) : DTs G X W [c] t m := ⟨pts_one h.pt, h.run⟩
theorem x_lci {tg iter elt : Expr} {ifs : List Expr} {scope : Scope} (own : List (Str × Nat)) {wi : TI} {g : TG} {gm : D → Loc → Option Loc} {fi : Loc → M (List D)} {tt : TT} {mt : Loc → M Bool} (hc : X.calm = true) (hN : X.N.Nodup) (hi : DI G X W tg iter wi fi) (ok : BlkOk X.N X.env.scope scope own)
    (hg : ∀ (s : Shared) (H : Hp) (C : Addr) (cl : List (Str × Addr)) (fp : List Addr), DG G (X.blk s H scope (compEnvC scope cl C X.env) fp) (own.map (·.2)) tg g gm) (ht : ∀ (s : Shared) (H : Hp) (C : Addr) (cl : List (Str × Addr)) (fp : List Addr), DTs G (X.blk s H scope (compEnvC scope cl C X.env) fp) W0 ifs tt mt)
    (he : ∀ (s : Shared) (H : Hp) (C : Addr) (cl : List (Str × Addr)) (fp : List Addr), DE G (X.blk s H scope (compEnvC scope cl C X.env) fp) W0 elt te fe) (hs : ∀ x, foldedSetIterable iter X.env x = pure x := by intro _; rfl) :
    DE G X W (.ListComp elt [⟨tg, iter, ifs, 0⟩] scope pos) (tLc wi g tt te (own.map (·.2))) (kLc fi gm mt fe (own.map (·.2))) := x_lc own hc hN hi ok hg (fun s H C cl fp => (ht s H C cl fp).pts) (ht X.s_0 (fun _ => none) 0 [] []).run he hs
theorem z_setLci {i : Nat} {y : Str} {py spos : Pos} {tg iter elt : Expr} {ifs : List Expr} {scope : Scope} (own : List (Str × Nat)) {wi : TI} {g : TG} {gm : D → Loc → Option Loc} {fi : Loc → M (List D)} {tt : TT} {mt : Loc → M Bool} (hc : X.calm = true) (hN : X.N.Nodup) (hy : X.N[i]? = some y) (hyl : X.env.scope.names.lookup y = some .local)
    (hsw : swapsWith (.ListComp elt [⟨tg, iter, ifs, 0⟩] scope pos) (some (.Name y py)) spos.line X.env = pure true) (hi : DI G X W tg iter wi fi) (ok : BlkOk X.N X.env.scope scope own)
    (hg : ∀ (s : Shared) (H : Hp) (C : Addr) (cl : List (Str × Addr)) (fp : List Addr), DG G (X.blk s H scope (compEnvC scope cl C X.env) fp) (own.map (·.2)) tg g gm) (ht : ∀ (s : Shared) (H : Hp) (C : Addr) (cl : List (Str × Addr)) (fp : List Addr), DTs G (X.blk s H scope (compEnvC scope cl C X.env) fp) W0 ifs tt mt)
    (he : ∀ (s : Shared) (H : Hp) (C : Addr) (cl : List (Str × Addr)) (fp : List Addr), DE G (X.blk s H scope (compEnvC scope cl C X.env) fp) W0 elt te fe) (hs : ∀ x, foldedSetIterable iter X.env x = pure x := by intro _; rfl) :
    DS G X W (.Assign [.Name y py] (.ListComp elt [⟨tg, iter, ifs, 0⟩] scope pos) spos) (tAsg (tLc wi g tt te (own.map (·.2))) (gName i)) (sasg (kLc fi gm mt fe (own.map (·.2))) (gnm i)) := z_setLc own hc hN hy hyl hsw hi ok hg (fun s H C cl fp => (ht s H C cl fp).pts) (ht X.s_0 (fun _ => none) 0 [] []).run he hs
/-! ### isinstance with a tuple of classes -/
def tyAns (ans : String ⊕ Nat → String ⊕ Nat → Option Bool) (t c : String ⊕ Nat) : Option Bool := match t, c with
  | .inl a, .inl T => if decide (kitB a T = some (subT a T)) = true then some (subT a T) else none
  | _, _ => ans t c
def clsTag : D → Option (String ⊕ Nat)
  | .ty T => some (.inl T)
  | .cls c => some (.inr c)
  | _ => none
def anyR (ans : String ⊕ Nat → String ⊕ Nat → Option Bool) (t : String ⊕ Nat) : List D → Option Bool
  | [] => some false
  | c :: r => match clsTag c with
    | some k => (match tyAns ans t k with
      | some true => some true
      | some false => anyR ans t r
      | none => none)
    | none => none
def isiT (ans : String ⊕ Nat → String ⊕ Nat → Option Bool) (ds : List D) : M D := match ds with
  | [x, .tup (c :: cs)] => if isiT.allTags (c :: cs) = true then (match tyTag x with
    | some t => (match anyR ans t (c :: cs) with
      | some b => mret (.bl b)
      | none => mbad)
    | none => mbad) else mbad
  | _ => mbad
where
  allTags : List D → Bool
    | [] => true
    | c :: r => (clsTag c).isSome && allTags r
theorem tyAns_ok {ans : String ⊕ Nat → String ⊕ Nat → Option Bool} (A : IsA G K ans) {t c : String ⊕ Nat} {b : Bool} (h : tyAns ans t c = some b) : PySem.W.kitOne K (tyV G t) (tyV G c) = some b := by
  cases t with
  | inl a =>
    cases c with
    | inl T =>
      have h' : (if decide (kitB a T = some (subT a T)) = true then some (subT a T) else none) = some b := h
      split at h'
      · rename_i hk
        cases h'
        exact kit_ty (of_decide_eq_true hk)
      · cases h'
    | inr n => exact A.ok _ _ _ h
  | inr m => exact A.ok _ _ _ (by cases c <;> exact h)
theorem clsV_of {p : Fm} {H : Hp} {d : D} {v : V} {k : String ⊕ Nat} (r : Rep G p H d v) (h : clsTag d = some k) : ClsV v (tyV G k) := by
  cases d <;> cases h
  · rw [(show v = _ from r)]; exact .ty _
  · rw [(show v = _ from r)]; exact .own _
theorem anyR_ok {ans : String ⊕ Nat → String ⊕ Nat → Option Bool} (A : IsA G K ans) {p : Fm} {H : Hp} {t : String ⊕ Nat} : ∀ {cs : List D} {vs : List V} {b : Bool}, RepL G p H cs vs → isiT.allTags cs = true → anyR ans t cs = some b → ∃ us, Paired ClsV vs us ∧ PySem.W.kitAny K (tyV G t) us = some b
  | [], vs, b, r, _, h => by
    rw [(show vs = [] from r)]
    cases h
    exact ⟨[], .nil, kitAny_nil⟩
  | c :: cs, vs, b, r, ht, h => by
    obtain ⟨v, vr, rfl, r1, r2⟩ := r
    have ht' : ((clsTag c).isSome && isiT.allTags cs) = true := ht
    rw [Bool.and_eq_true] at ht'
    unfold anyR at h
    cases hk : clsTag c with
    | none => rw [hk] at h; cases h
    | some k =>
      rw [hk] at h
      dsimp only at h
      cases ha : tyAns ans t k with
      | none => rw [ha] at h; cases h
      | some y =>
        rw [ha] at h
        have one := tyAns_ok A ha
        cases y with
        | true =>
          cases h
          obtain ⟨us, p1⟩ := tags_cls (G := G) (p := p) (H := H) r2 ht'.2
          exact ⟨_ :: us, .cons (clsV_of r1 hk) p1, kitAny_cons one (fun z => by cases z) fun _ => rfl⟩
        | false =>
          obtain ⟨us, p1, p2⟩ := anyR_ok A r2 ht'.2 h
          exact ⟨_ :: us, .cons (clsV_of r1 hk) p1, kitAny_cons one (fun _ => p2) fun z => by cases z⟩
where
  tags_cls {G : Gt} {p : Fm} {H : Hp} : ∀ {cs : List D} {vs : List V}, RepL G p H cs vs → isiT.allTags cs = true → ∃ us, Paired ClsV vs us
    | [], vs, r, _ => ⟨[], by rw [(show vs = [] from r)]; exact .nil⟩
    | c :: cs, vs, r, ht => by
      obtain ⟨v, vr, rfl, r1, r2⟩ := r
      have ht' : ((clsTag c).isSome && isiT.allTags cs) = true := ht
      rw [Bool.and_eq_true] at ht'
      obtain ⟨us, p1⟩ := tags_cls r2 ht'.2
      obtain ⟨k, hk⟩ := Option.isSome_iff_exists.mp ht'.1
      exact ⟨_ :: us, .cons (clsV_of r1 hk) p1⟩
theorem tyx_flat {p : Fm} {H : Hp} {d : D} {v : V} {T : String} (r : Rep G p H d v) (h : tyTag d = some (.inl T)) : TyX K H v (.type T) := by
  cases d <;> cases h
  · rw [(show v = _ from r)]; exact .base .non
  · rw [(show v = _ from r)]; exact .base (.bl _)
  · rw [(show v = _ from r)]; exact .base (.int _)
  · rw [(show v = _ from r)]; exact .base (.str _)
  · obtain ⟨a, us, rfl, h0, h1, q1⟩ := r; exact .base (.lst h1)
  · obtain ⟨a, us, rfl, h0, h1, q1⟩ := r; exact .base (.tup h1)
theorem ist_of {ans : String ⊕ Nat → String ⊕ Nat → Option Bool} (A : IsA G K ans) {n : Nat} {c : D} {cs : List D} {b : Bool} (h : anyR ans (.inr n) (c :: cs) = some b) : Isc K (G.cls n) := by
  unfold anyR at h
  cases hk : clsTag c with
  | none => rw [hk] at h; cases h
  | some k =>
    rw [hk] at h
    dsimp only at h
    cases ha : tyAns ans (.inr n) k with
    | none => rw [ha] at h; cases h
    | some y =>
      have ha' : ans (.inr n) k = some y := by cases k <;> exact ha
      exact A.isc _ _ _ ha'
theorem cr_isiT (hK : X.K = K) : CallR X (.builtin "isinstance") (rIsiT K) := by subst hK; exact call_isiT
theorem prim_isiT {ans : String ⊕ Nat → String ⊕ Nat → Option Bool} (A : IsA G K ans) : PrimL G (rIsiT K) (isiT ans) := by
  intro W p σ H s xs vs Q pk rs fin
  unfold isiT at fin
  split at fin
  · rename_i x c cs
    obtain ⟨v, _, rfl, rx, w, _, rfl, ⟨tp, us, rfl, h0, h1, q1⟩, hz⟩ := rs
    obtain rfl := hz
    split at fin
    · rename_i hall
      cases ht : tyTag x with
      | none => rw [ht] at fin; exact False.elim fin
      | some t =>
        rw [ht] at fin
        dsimp only at fin
        cases ha : anyR ans t (c :: cs) with
        | none => rw [ha] at fin; exact False.elim fin
        | some b =>
          rw [ha] at fin
          obtain ⟨ws, p1, p2⟩ := anyR_ok A q1 hall ha
          cases t with
          | inl T => exact ⟨v, tp, us, _, ws, b, rfl, h1, p1, tyx_flat rx ht, p2, fin _ H Keep.refl pk rfl⟩
          | inr n =>
            have z := ist_of A ha
            cases x <;> cases ht
            obtain ⟨a, dx, vs, rfl, a0, a1, al, as⟩ := rx
            exact ⟨_, tp, us, _, ws, b, rfl, h1, p1, .base (.ins a1 z.c z.h1 z.h2 z.h3 z.h4), p2, fin _ H Keep.refl pk rfl⟩
    · exact False.elim fin
  · exact False.elim fin
/-! ### all, any over lists of truths -/
def bls : List D → Option (List Bool)
  | [] => some []
  | .bl b :: r => (match bls r with
    | some bs => some (b :: bs)
    | none => none)
  | _ => none
theorem bls_of {p : Fm} {H : Hp} : ∀ {ds : List D} {vs : List V} {bs : List Bool}, RepL G p H ds vs → bls ds = some bs → vs = bs.map V.bl
  | [], vs, bs, r, h => by
    cases h
    rw [(show vs = [] from r)]
    rfl
  | d :: ds, vs, bs, r, h => by
    obtain ⟨v, vr, rfl, r1, r2⟩ := r
    cases d <;> try (cases h; done)
    rename_i b
    unfold bls at h
    cases q : bls ds with
    | none => rw [q] at h; cases h
    | some bs' =>
      rw [q] at h
      cases h
      rw [(show v = _ from r1), bls_of r2 q]
      rfl
def allD (ds : List D) : M D := match ds with
  | [.lst xs] => (match bls xs with
    | some bs => mret (.bl (bs.all id))
    | none => mbad)
  | _ => mbad
def anyD (ds : List D) : M D := match ds with
  | [.lst xs] => (match bls xs with
    | some bs => mret (.bl (bs.any id))
    | none => mbad)
  | _ => mbad
theorem cr_all' (hK : X.K = K) (hc : X.calm = true) : CallR X (.builtin "all") (rAll K) := by subst hK; exact cr_all hc
theorem cr_any' (hK : X.K = K) (hc : X.calm = true) : CallR X (.builtin "any") (rAny K) := by subst hK; exact cr_any hc
theorem prim_all : PrimL G (rAll K) allD := by
  intro W p σ H s xs vs Q pk rs fin
  unfold allD at fin
  split at fin
  · rename_i xs
    obtain ⟨v, _, rfl, ⟨a, us, rfl, h0, h1, q1⟩, hz⟩ := rs
    obtain rfl := hz
    cases q : bls xs with
    | none => rw [q] at fin; exact False.elim fin
    | some bs =>
      rw [q] at fin
      have e := bls_of q1 q
      subst e
      exact ⟨a, bs, rfl, SqL.of h1, fin _ H Keep.refl pk rfl⟩
  · exact fin.elim
theorem prim_any : PrimL G (rAny K) anyD := by
  intro W p σ H s xs vs Q pk rs fin
  unfold anyD at fin
  split at fin
  · rename_i xs
    obtain ⟨v, _, rfl, ⟨a, us, rfl, h0, h1, q1⟩, hz⟩ := rs
    obtain rfl := hz
    cases q : bls xs with
    | none => rw [q] at fin; exact False.elim fin
    | some bs =>
      rw [q] at fin
      have e := bls_of q1 q
      subst e
      exact ⟨a, bs, rfl, SqL.of h1, fin _ H Keep.refl pk rfl⟩
  · exact fin.elim
/-! ### x[lo:hi] -/
structure DO (G : Gt) (X : Cx) (W : WX) (e : Option Expr) (t : TO) (m : Loc → M (Option Int)) : Prop where
  po : PO X e t
  run : RunG G W (fun _ _ x y => x = y) t m
def kPart (fe : Loc → M D) : Loc → M (Option Int) := fun ρ => mbind (fe ρ) fun d => match d with
  | .int i => mret (some i)
  | _ => mbad
def kNo : Loc → M (Option Int) := fun _ => mret none
theorem do_none : DO G X W none tNoPart kNo := ⟨po_none, fun p σ H ρ s Q e pk fin => fin _ H Keep.refl pk rfl⟩
theorem do_some (h : DE G X W e te fe) : DO G X W (some e) (tPart te) (kPart fe) := by
  refine ⟨po_some h.pe, fun p σ H ρ s Q en pk fin => ?_⟩
  refine h.run p σ H ρ s _ en pk (fin.step fun x s1 v H1 k1 pk1 rx fin1 => ?_)
  cases x <;> try (exact False.elim fin1)
  rename_i i
  obtain rfl : v = .int i := rx
  exact ⟨i, rfl, fin1 _ H1 Keep.refl pk1 rfl⟩
def cutD (xs : List D) (lo hi : Option Int) : List D := (xs.drop (HT.sIx xs.length 0 lo)).take (HT.sIx xs.length xs.length hi - HT.sIx xs.length 0 lo)
theorem repL_drop {p : Fm} {H : Hp} : ∀ (n : Nat) {ds : List D} {vs : List V}, RepL G p H ds vs → RepL G p H (ds.drop n) (vs.drop n)
  | 0, _, _, r => r
  | n + 1, [], vs, r => by rw [(show vs = [] from r)]; exact rfl
  | n + 1, d :: ds, vs, r => by
    obtain ⟨v, vr, rfl, r1, r2⟩ := r
    exact repL_drop n r2
theorem repL_take {p : Fm} {H : Hp} : ∀ (n : Nat) {ds : List D} {vs : List V}, RepL G p H ds vs → RepL G p H (ds.take n) (vs.take n)
  | 0, _, _, r => rfl
  | n + 1, [], vs, r => by rw [(show vs = [] from r)]; exact rfl
  | n + 1, d :: ds, vs, r => by
    obtain ⟨v, vr, rfl, r1, r2⟩ := r
    exact ⟨v, vr.take n, rfl, r1, repL_take n r2⟩
theorem repL_cut {p : Fm} {H : Hp} {ds : List D} {vs : List V} (lo hi : Option Int) (r : RepL G p H ds vs) : RepL G p H (cutD ds lo hi) (cutV vs lo hi) := by
  unfold cutD cutV
  rw [← repL_len r]
  exact repL_take _ (repL_drop _ r)
def rSl (K : PySem.W.Frag) : V → Option Int → Option Int → Hp → VK → Prop := fun x lo hi H Q => rSlL K x lo hi H Q ∨ rSlA K x lo hi H Q
theorem sl_seq (hK : X.K = K) : SlR X (rSl K) := by
  subst hK
  intro pins s σ H x v vl vu lo hi sl Q I rx hs pl pu h
  rcases h with h | h
  · exact sl_list pins s σ H x v vl vu lo hi sl Q I rx hs pl pu h
  · exact sl_tupA pins s σ H x v vl vu lo hi sl Q I rx hs pl pu h
def kSl (fe : Loc → M D) (fl fh : Loc → M (Option Int)) : Loc → M D := fun ρ => mbind (fe ρ) fun x => mbind (fl ρ) fun l => mbind (fh ρ) fun h => match x with
  | .lst xs => mret (.lst (cutD xs l h))
  | .tup xs => mret (.tup (cutD xs l h))
  | _ => mbad
theorem cut_whole {xs : List D} {lo hi : Option Int} (h : HT.sIx xs.length 0 lo = 0 ∧ HT.sIx xs.length xs.length hi = xs.length) : cutD xs lo hi = xs := by
  unfold cutD
  rw [h.1, h.2]
  simp
theorem x_sl {lo hi : Option Expr} {tl th : TO} {fl fh : Loc → M (Option Int)} {p2 : Pos} (hK : X.K = K) (he : DE G X W e te fe) (hl : DO G X W lo tl fl) (hh : DO G X W hi th fh) : DE G X W (.Subscript e (.Slice lo hi none p2) pos) (tSl (rSl K) te tl th) (kSl fe fl fh) := by
  refine ⟨pe_slice (sl_seq hK) he.pe hl.po hh.po, fun p σ H ρ s Q en pk fin => ?_⟩
  refine he.run p σ H ρ s _ en pk (fin.step fun x s1 v H1 k1 pk1 rx fin1 => ?_)
  have e1 := en.keep pk.at k1
  refine hl.run p σ H1 ρ s1 _ e1 pk1 (fin1.step fun l s2 l' H2 k2 pk2 el fin2 => ?_)
  obtain rfl := el
  have e2 := e1.keep pk1.at k2
  refine hh.run p σ H2 ρ s2 _ e2 pk2 (fin2.step fun h s3 h' H3 k3 pk3 eh fin3 => ?_)
  obtain rfl := eh
  have r3 := rep_keep pk2.at k3 _ _ (rep_keep pk1.at k2 _ _ rx)
  cases x <;> try (exact False.elim fin3)
  · rename_i xs
    obtain ⟨a, us, rfl, h0, h1, q1⟩ := r3
    refine .inl ⟨a, us, rfl, SqL.of h1, fun q hq => ?_⟩
    have k : Keep p H3 (upd H3 q (.lst (cutV us l h))) := Keep.new hq
    exact fin3 _ _ k (pk3.new hq) ⟨q, _, rfl, pk3.free hq, upd_same, repL_keep pk3.at k _ _ (repL_cut l h q1)⟩
  · rename_i xs
    obtain ⟨a, us, rfl, h0, h1, q1⟩ := id r3
    refine .inr ⟨a, us, rfl, SqT.of h1, fun hw => ?_, fun hw q hq => ?_⟩
    · refine fin3 _ H3 Keep.refl pk3 ?_
      show Rep G p H3 (.tup (cutD xs l h)) _
      rw [cut_whole (by rw [repL_len q1]; exact hw)]
      exact r3
    · have k : Keep p H3 (upd H3 q (.tup (cutV us l h))) := Keep.new hq
      exact fin3 _ _ k (pk3.new hq) ⟨q, _, rfl, pk3.free hq, upd_same, repL_keep pk3.at k _ _ (repL_cut l h q1)⟩
/-! ### reading a list that grows -/
def itemG (x y : D) : M D := fun (s : Pen) => match x with
  | .self => if (s.ocls == gro) = true then itemD (.lst (s.obj.map (·.2))) y s else .bad
  | _ => itemD x y s
theorem prim_itemG : Prim2 G (fun x y H Q => rIxL K x y H Q ∨ rIxT K x y H Q) itemG := by
  intro W p σ H s x y vx vy Q pk rx ry fin
  cases x <;> try (exact prim_item W p σ H s _ y vx vy Q pk rx ry fin)
  have fin' : FinG G W (RelE G) p σ H Q (if (s.ocls == gro) = true then itemD (.lst (s.obj.map (·.2))) y s else Out.bad) := fin
  split at fin'
  · rename_i hg
    obtain ⟨a, dx, vs, ea, rfl, h1, hl, hc, rs⟩ := gro_at pk rx (beq_iff_eq.mp hg)
    have q1 : RepL G p H (s.obj.map (·.2)) vs := repL_move (G := G.bare) (G' := G) (p := p) (q := p) rfl rfl (fun _ _ _ z => z) _ _ hc rs
    revert fin' q1
    generalize s.obj.map (·.2) = L
    intro fin' q1
    cases y <;> try (exact False.elim fin')
    rename_i i
    obtain rfl : vy = .int i := ry
    have fin2 : FinG G W (RelE G) p σ H Q ((match atI L i with | some d => (mret d : M D) | none => mbad) s) := fin'
    cases h : atI L i with
    | none => rw [h] at fin2; exact False.elim fin2
    | some d =>
      rw [h] at fin2
      obtain ⟨v, h2, h3⟩ := atI_rep q1 h
      exact .inl ⟨a, vs, i, v, rfl, rfl, SqL.of h1, h2, fin2 v H Keep.refl pk h3⟩
  · exact False.elim fin'
theorem x_ixG (hK : X.K = K) (ha : DE G X W a ta fa) (hb : DE G X W b tb fb) (hs : PlainIx b := by exact fun _ _ => rfl) : DE G X W (.Subscript a b pos) (tOp (fun x y H Q => rIxL K x y H Q ∨ rIxT K x y H Q) ta tb) (kOp itemG fa fb) :=
  ⟨pe_ix (ix_any hK) ha.pe hb.pe hs, run_op prim_itemG ha.run hb.run⟩
def lenG (ds : List D) : M D := fun (s : Pen) => match ds with
  | [.self] => if (s.ocls == gro) = true then .ok (.int (s.obj.length : Nat)) s else .bad
  | _ => lenD ds s
theorem prim_lenG : PrimL G (fun xs H Q => ∃ p ys, xs = [.ref p] ∧ (SqL K H p ys ∨ SqT K H p ys) ∧ Q (.int ys.length) H) lenG := by
  intro W p σ H s xs vs Q pk rs fin
  unfold lenG at fin
  split at fin
  · obtain ⟨v, _, rfl, rx, hz⟩ := rs
    obtain rfl := hz
    split at fin
    · rename_i hg
      obtain ⟨a, dx, us, ea, rfl, h1, hl, hc, rs⟩ := gro_at pk rx (beq_iff_eq.mp hg)
      exact ⟨a, us, rfl, .inl (SqL.of h1), by rw [← hl]; exact fin _ H Keep.refl pk rfl⟩
    · exact False.elim fin
  · exact prim_len W p σ H s _ vs Q pk rs fin
/-! ### list * int -/
def repD (xs : List D) (k : Int) : List D := (List.replicate k.toNat xs).flatten
theorem repL_rep {p : Fm} {H : Hp} {ds : List D} {vs : List V} (r : RepL G p H ds vs) : ∀ n : Nat, RepL G p H (List.replicate n ds).flatten (List.replicate n vs).flatten
  | 0 => rfl
  | n + 1 => by
    rw [List.replicate_succ, List.replicate_succ, List.flatten_cons, List.flatten_cons]
    exact repL_app r (repL_rep r n)
def repL' (x y : D) : M D := match x, y with
  | .lst xs, .int k => if decide (-1000000 ≤ k ∧ k ≤ 1000000 ∧ xs.length * k.toNat ≤ 1000000) = true then mret (.lst (repD xs k)) else mbad
  | _, _ => mbad
theorem prim_rep : Prim2 G rRep repL' := by
  intro W p σ H s x y vx vy Q pk rx ry fin
  unfold repL' at fin
  split at fin
  · rename_i xs k
    split at fin
    · rename_i hd
      obtain ⟨h1, h2, h3⟩ := of_decide_eq_true hd
      obtain ⟨a, us, rfl, a0, a1, q1⟩ := rx
      obtain rfl : vy = .int k := ry
      refine ⟨a, k, us, rfl, rfl, a1, by omega, by omega, by rw [← repL_len q1]; exact Nat.le_trans h3 (by decide), fun l hl => ?_⟩
      have kk : Keep p H (upd H l (.lst (List.replicate k.toNat us).flatten)) := Keep.new hl
      exact fin _ _ kk (pk.new hl) ⟨l, _, rfl, pk.free hl, upd_same, repL_keep pk.at kk _ _ (repL_rep q1 _)⟩
    · exact False.elim fin
  · exact False.elim fin
def mulIR : D → D → M D := fun x y => match x with
  | .lst _ => repL' x y
  | _ => mulI x y
/-! ### max, min of two -/
def max2D (ds : List D) : M D := match ds with
  | [.int i, .int j] => mret (.int (if j > i then j else i))
  | _ => mbad
def min2D (ds : List D) : M D := match ds with
  | [.int i, .int j] => mret (.int (if j < i then j else i))
  | _ => mbad
theorem prim_max2 : PrimL G (fun xs H Q => ∃ i j, xs = [.int i, .int j] ∧ Q (.int (if j > i then j else i)) H) max2D := by
  intro W p σ H s xs vs Q pk rs fin
  unfold max2D at fin
  split at fin
  · rename_i i j
    obtain ⟨v, _, rfl, rx, w, _, rfl, ry, hz⟩ := rs
    obtain rfl := hz
    obtain rfl : v = .int i := rx
    obtain rfl : w = .int j := ry
    exact ⟨i, j, rfl, fin _ H Keep.refl pk rfl⟩
  · exact False.elim fin
theorem prim_min2 : PrimL G (fun xs H Q => ∃ i j, xs = [.int i, .int j] ∧ Q (.int (if j < i then j else i)) H) min2D := by
  intro W p σ H s xs vs Q pk rs fin
  unfold min2D at fin
  split at fin
  · rename_i i j
    obtain ⟨v, _, rfl, rx, w, _, rfl, ry, hz⟩ := rs
    obtain rfl := hz
    obtain rfl : v = .int i := rx
    obtain rfl : w = .int j := ry
    exact ⟨i, j, rfl, fin _ H Keep.refl pk rfl⟩
  · exact False.elim fin
def kFew (fA : Loc → M (List D)) : Loc → M (List D) := fun ρ => mbind (fA ρ) few
theorem z_append {o e : Expr} {to te : TE} {fo fe : Loc → M D} {apos cpos : Pos} (ho : DE G X W o to fo) (he : DE G X W e te fe)
    (hbase : attributeBase o "append" X.env (eval o X.env) = eval o X.env := by rfl)
    (hfew : ((backTo cpos (starEach [e] X.env)).all (fun x => !x.1) && (backToKw cpos (keywordEach [] X.env)).all (fun x => x.1.isSome)
      && decide ([e].length + ([] : List Keyword).length + (if ([] : List Keyword).isEmpty then 0 else 1) < 30)) = true := by rfl)
    (hline : (apos.endLine == cpos.line) = true := by rfl) (hst : starEach [e] X.env = (false, eval e X.env) :: starEach [] X.env := by rfl) (hplain : (backTo cpos (starEach [] X.env)).any (·.1) = false := by rfl)
    (hs : swapsWith (.Call (.Attribute o "append" apos) [e] [] cpos) none pos.line X.env = pure false := by rfl) :
    DS G X W (.Expr (.Call (.Attribute o "append" apos) [e] [] cpos) pos) (tDrop (tBM X.K "list" rAppend to (tCons te tNil))) (gApp fo fe) := ds_append ho he hbase hfew hline hst hplain hs
/-! ### x[i] = e, x a list that grows -/
def objSet (os : List (Str × D)) (j : Nat) (d : D) : List (Str × D) := os.set j (("" : Str), d)
def gSet (fo fi fv : Loc → M D) : MS := fun ρ s => sof (fv ρ s) ρ fun d s1 => sof (fo ρ s1) ρ fun x s2 => match x with
  | .self => sof (fi ρ s2) ρ fun k s3 => (match k with
    | .int i => (match ixN s3.obj.length i with
      | some j => if (s3.ocls == gro && clear d) = true then .nx ρ { s3 with obj := objSet s3.obj j d } else .bad
      | none => .bad)
    | _ => .bad)
  | _ => .bad
theorem clearL_set : ∀ {ds : List D} {j : Nat} {d : D}, clearL ds = true → clear d = true → clearL (ds.set j d) = true
  | [], j, d, _, _ => rfl
  | x :: ds, 0, d, h, hd => by
    have h' : (clear x && clearL ds) = true := h
    rw [Bool.and_eq_true] at h'
    show (clear d && clearL ds) = true
    rw [hd, h'.2]; rfl
  | x :: ds, j + 1, d, h, hd => by
    have h' : (clear x && clearL ds) = true := h
    rw [Bool.and_eq_true] at h'
    show (clear x && clearL (ds.set j d)) = true
    rw [h'.1, clearL_set h'.2 hd]; rfl
theorem z_gset {o i value : Expr} {to ti tv : TE} {fo fi fv : Loc → M D} {pos' p2 : Pos} (ho : DE G X W o to fo) (hi : DE G X W i ti fi) (hv : DE G X W value tv fv)
    (has : ∀ v, assign (.Subscript o i pos') X.env v = (do
      let ov ← holding [v] (eval o X.env)
      let iv ← holding [v, ov] (eval i X.env)
      standAt pos'
      holding [v, ov, iv] (setItem ov iv v)
      release [v, ov, iv] []) := by intro _; rfl)
    (hs : swapsWithSole [.Subscript o i pos'] value p2.line X.env = pure false := by rfl) (hw : swappedStores [.Subscript o i pos'] value X.env = pure none := by rfl)
    (h1 : (assignEach [.Subscript o i pos'] X.env).map (·.2) = [assign (.Subscript o i pos') X.env] := by rfl) :
    DS G X W (.Assign [.Subscript o i pos'] value p2) (tAsg tv (gSub to ti rSetL)) (gSet fo fi fv) := by
  refine ⟨ps_asg hv.pe (pg_sub ho.pe hi.pe set_list has) hs hw h1, fun p σ H ρ s Z en pk fin => ?_⟩
  refine hv.run p σ H ρ s _ en pk (FinS.step fin (fun H1 s1 k1 pk1 => en.keep pk.at k1) fun d s1 vd H1 k1 pk1 rd fin1 => ?_)
  have e1 := en.keep pk.at k1
  refine ho.run p σ H1 ρ s1 _ e1 pk1 (FinS.step fin1 (fun H2 s2 k2 pk2 => e1.keep pk1.at k2) fun x s2 vx H2 k2 pk2 rx fin2 => ?_)
  have e2 := e1.keep pk1.at k2
  cases x <;> first
    | exact False.elim fin2
    | skip
  dsimp only at fin2
  refine hi.run p σ H2 ρ s2 _ e2 pk2 (FinS.step fin2 (fun H3 s3 k3 pk3 => e2.keep pk2.at k3) fun k s3 vk H3 k3 pk3 rk fin3 => ?_)
  have e3 := e2.keep pk2.at k3
  cases k <;> first
    | exact False.elim fin3
    | skip
  rename_i i
  obtain rfl : vk = .int i := rk
  dsimp only at fin3
  cases hj : ixN s3.obj.length i with
  | none => rw [hj] at fin3; exact False.elim fin3
  | some j =>
    rw [hj] at fin3
    dsimp only at fin3
    split at fin3
    · rename_i hok
      simp only [Bool.and_eq_true, beq_iff_eq] at hok
      obtain ⟨hg, hcd⟩ := hok
      obtain ⟨a, dx, us, ea, e4, h3, hl, hc, rs⟩ := gro_at pk3 (rep_keep pk2.at k3 .self vx rx) hg
      subst e4
      have rd3 : Rep G p H3 d vd := rep_keep pk2.at k3 _ _ (rep_keep pk1.at k2 _ _ rd)
      have hm : (objSet s3.obj j d).map (·.2) = (s3.obj.map (·.2)).set j d := by unfold objSet; rw [List.map_set]
      refine ⟨a, us, i, j, rfl, rfl, h3, by rw [← hl]; exact hj, ?_⟩
      have q := pen_gro (os := objSet s3.obj j d) (us := us.set j vd) pk3 ea hg (by unfold objSet; simp [hl]) (by rw [hm]; exact clearL_set hc hcd)
        (by rw [hm]; exact repL_set rs (rep_move (G := G) (G' := G.bare) rfl rfl (fun _ _ _ z => z) d vd hcd rd3))
      exact fin3 σ _ q.1 q.2 (e3.keep pk3.at q.1)
    · exact False.elim fin3
/-! ### blocks with a list that grows -/
theorem z_grow (k : Nat) {n : Nat} {rest : List Stmt} {x : Str} {px p1 : Pos} {tb : TS} {mb md mr : MS} {tr : TS} (d : DS G X W (.Assign [.Name x px] (.List es pos) p1) (tAsg (tLst tA) (gName n)) md) (ha : DA G X W es tA fA) (b : DB G X W (rest.take k) tb mb) (r : DSs G X W (rest.drop k) tr mr) :
    DSs G X W (.Assign [.Name x px] (.List es pos) p1 :: rest) (tSeq (tSeq (tAsg (tLst tA) (gName n)) tb) tr) (sseq (sGrow n (kFew fA) mb) mr) := by
  have h := dss_app (db_grow (f := kFew fA) d.ps (runf_lst ha.run) b) r
  rw [List.cons_append, List.take_append_drop] at h
  exact h
theorem z_growE {n : Nat} {rest : List Stmt} {x : Str} {px p1 : Pos} {tb : TS} {mb md : MS} (d : DS G X W (.Assign [.Name x px] (.List es pos) p1) (tAsg (tLst tA) (gName n)) md) (ha : DA G X W es tA fA) (b : DB G X W rest tb mb) :
    DSs G X W (.Assign [.Name x px] (.List es pos) p1 :: rest) (tSeq (tSeq (tAsg (tLst tA) (gName n)) tb) tNext) (sseq (sGrow n (kFew fA) mb) zNx) := dss_all (db_grow (f := kFew fA) d.ps (runf_lst ha.run) b)
end
end Tw

set_option Elab.async false
set_option linter.all false
set_option maxRecDepth 100000
set_option maxHeartbeats 4000000
set_option autoImplicit false
namespace Tw
open PySem L2
local macro_rules | `(tactic| walk_at "tw") => `(tactic| simp only [mdef, startL, sseq, zNx, zIf, zRet, zRetN, zEx, zBk, zCt, zRaise, sasg, spar, sof_ret, sof_ok, mret_ap, mbind_ap, obind_ok, mbind_ret, mbind_bad, kC, kOp, kUn, kB, kAnd, kOr, kNot, kAndV, kOrV, kNotV, kIf, kCh, aNil, aCons, kCall, iL, iT, iR1, iR2, mvar, gnm, asB, asL, asT, int2, int2c, addIL, addI, subI, mul_eq, fdv_eq, fdv_64, fmd_eq, ne_eq, not_false_eq_true, Int.reduceEq, Nat.reduceLeDiff, Int.reduceAdd, Int.reduceNeg, p9, p15, p18, p20, p30, negI, ltI, leI, gtI, geI, eqA, neA, isBo, isNo, tupD, lstD, itemD, gcdD, intD, absD, lenD, penGet, penPut, Pen.get, Pen.put,
  ii_int, ii_bool, ib_int, ib_bool, in_int, is_int, it_int, il_int, it_tuple,
  List.map_cons, List.map_nil, List.length_cons, List.length_nil, List.cons_append, List.nil_append, List.getElem?_cons_zero, List.getElem?_cons_succ, List.set_cons_zero, List.set_cons_succ, List.replicate_succ, List.replicate_zero, Nat.reduceSub, Nat.reduceAdd, if_true, if_false, decide_eq_true_eq, Bool.not_eq_true', Bool.true_eq_false, Bool.false_eq_true, reduceIte, decide_true, decide_false, Bool.not_true, Bool.not_false, ite_true, ite_false, List.length_map, *])
namespace Pn
def b_take_0 : MS := (penPut (mvar 0) (kOp addIL (penGet (mvar 0) .turn) (kC (.int 1))) .turn)
def b_take_1 : MS := (zIf (kAnd (kB (kOp eqA (penGet (mvar 0) .digits) (kC (.int 0)))) (kB (kOp ltI (penGet (mvar 0) .next) (kCall lenD (aCons (penGet (mvar 0) .cells) aNil))))) (sseq (sasg (kCall intD (aCons (kOp itemD (penGet (mvar 0) .cells) (penGet (mvar 0) .next)) aNil)) (gnm 2)) (sseq (penPut (mvar 0) (kOp addIL (penGet (mvar 0) .next) (kC (.int 1))) .next) (zIf (kB (kOp geI (mvar 2) (kOp powI (kC (.int 10)) (kC (.int 18))))) (sseq (penPut (mvar 0) (kOp subI (mvar 2) (kOp powI (kC (.int 10)) (kC (.int 18)))) .rest) (penPut (mvar 0) (kC (.int 40)) .digits)) (penPut (mvar 0) (kOp fmdI (kCall intD (aCons (kOp addIL (kOp addIL (kOp mulI (penGet (mvar 0) .seed) (kC (.int 39373))) (kOp fmdI (mvar 2) (kC (.int 2147483423)))) (kC (.int 7))) aNil)) (kC (.int 2147483489))) .seed)))) zNx)
def b_take_2 : MS := (zIf (kB (kOp gtI (penGet (mvar 0) .digits) (kC (.int 0)))) (sseq (penPut (mvar 0) (kOp subI (penGet (mvar 0) .digits) (kC (.int 1))) .digits) (sseq (sasg (kOp fmdI (kCall intD (aCons (penGet (mvar 0) .rest) aNil)) (mvar 1)) (gnm 3)) (sseq (penPut (mvar 0) (kOp fdvI (penGet (mvar 0) .rest) (mvar 1)) .rest) (zRet (mvar 3))))) zNx)
def b_take_3 : MS := (penPut (mvar 0) (kOp fmdI (kCall intD (aCons (kOp addIL (kOp addIL (kOp mulI (penGet (mvar 0) .seed) (kC (.int 48271))) (kOp mulI (kC (.int 13)) (penGet (mvar 0) .turn))) (kC (.int 5))) aNil)) (kC (.int 2147483647))) .seed)
def b_take_4 : MS := (zRet (kOp fmdI (kOp fdvI (kOp fmdI (kCall intD (aCons (kOp mulI (penGet (mvar 0) .seed) (kC (.int 16807))) aNil)) (kC (.int 2147483629))) (kC (.int 64))) (mvar 1)))
def b_take : MS := (sseq b_take_0 (sseq b_take_1 (sseq b_take_2 (sseq b_take_3 b_take_4))))
def m_take : List D → M D := mdef 4 b_take
def b_of : MS := (zRet (kOp itemD (mvar 1) (kCall m_take (aCons (mvar 0) (aCons (kCall lenD (aCons (mvar 1) aNil)) aNil)))))
def m_of : List D → M D := mdef 2 b_of
def Eq2 (s s' : Pen) : Prop := s'.obj = s.obj ∧ s'.ocls = s.ocls
theorem take0 (many : Int) (x2 x3 : Option D) (s : Pen) : b_take_0 [some .pen, some (.int many), x2, x3] s = .nx [some .pen, some (.int many), x2, x3] { s with turn := s.turn + 1 } := by
  unfold b_take_0
  walk_at "tw"
theorem take1 (many : Int) (x2 x3 : Option D) (s : Pen) : ∃ y s', b_take_1 [some .pen, some (.int many), x2, x3] s = .nx [some .pen, some (.int many), y, x3] s' ∧ Eq2 s s' := by
  unfold b_take_1
  by_cases h1 : s.digits = 0
  · by_cases h2 : ((s.next : Nat) : Int) < (s.cells.length : Nat)
    · obtain ⟨n, hn⟩ := atI_int (show s.next < s.cells.length by omega)
      have hm : mulOk s.seed 39373 = true := mulOk_r (by decide)
      have h0 : (0 : Int) ≤ (s.next : Nat) + 1 := by omega
      have h5 : ((2147483423 : Int) ≠ 0) := by decide
      have h6 : ((2147483489 : Int) ≠ 0) := by decide
      by_cases h3 : 1000000000000000000 ≤ n
      · walk_at "tw"
        exact ⟨_, _, rfl, rfl, rfl⟩
      · walk_at "tw"
        exact ⟨_, _, rfl, rfl, rfl⟩
    · walk_at "tw"
      exact ⟨_, _, rfl, rfl, rfl⟩
  · walk_at "tw"
    exact ⟨_, _, rfl, rfl, rfl⟩
theorem take2 (many : Int) (x2 x3 : Option D) (s : Pen) (h : 0 < many) (h9 : many.natAbs.log2 < 9000) : (b_take_2 [some .pen, some (.int many), x2, x3] s = .nx [some .pen, some (.int many), x2, x3] s) ∨
    ∃ d s', b_take_2 [some .pen, some (.int many), x2, x3] s = .ret (.int d) s' ∧ 0 ≤ d ∧ d < many ∧ Eq2 s s' := by
  unfold b_take_2
  by_cases h1 : 0 < s.digits
  · have h2 : many ≠ 0 := by omega
    refine .inr ⟨s.rest.fmod many, { s with digits := s.digits - 1, rest := s.rest.fdiv many }, ?_, Int.fmod_nonneg_of_pos _ h, Int.fmod_lt_of_pos _ h, rfl, rfl⟩
    walk_at "tw"
  · exact .inl (by walk_at "tw")
theorem take3 (many : Int) (x2 x3 : Option D) (s : Pen) : ∃ s', b_take_3 [some .pen, some (.int many), x2, x3] s = .nx [some .pen, some (.int many), x2, x3] s' ∧ Eq2 s s' := by
  unfold b_take_3
  have h1 : mulOk s.seed 48271 = true := mulOk_r (by decide)
  have h2 : mulOk 13 s.turn = true := mulOk_l (by decide)
  have h3 : (2147483647 : Int) ≠ 0 := by decide
  walk_at "tw"
  exact ⟨_, rfl, rfl, rfl⟩
theorem take4 (many : Int) (x2 x3 : Option D) (s : Pen) (h : 0 < many) : ∃ d s', b_take_4 [some .pen, some (.int many), x2, x3] s = .ret (.int d) s' ∧ 0 ≤ d ∧ d < many ∧ Eq2 s s' := by
  unfold b_take_4
  have h1 : mulOk s.seed 16807 = true := mulOk_r (by decide)
  have h2 : many ≠ 0 := by omega
  have h3 : (2147483629 : Int) ≠ 0 := by decide
  have h4 : (64 : Int) ≠ 0 ∧ (64 : Int).natAbs.log2 < 9000 := by decide
  refine ⟨_, s, ?_, Int.fmod_nonneg_of_pos (((s.seed * 16807).fmod 2147483629).fdiv 64) h, Int.fmod_lt_of_pos _ h, rfl, rfl⟩
  walk_at "tw"
theorem take_ok (s : Pen) (many : Int) (h : 0 < many) (h9 : many.natAbs.log2 < 9000) : ∃ d s', m_take [.pen, .int many] s = .ok (.int d) s' ∧ 0 ≤ d ∧ d < many ∧ s'.obj = s.obj ∧ s'.ocls = s.ocls := by
  obtain ⟨y, s1, e1, q1, r1⟩ := take1 many none none { s with turn := s.turn + 1 }
  have e : b_take (startL 4 [.pen, .int many]) s = sseq b_take_2 (sseq b_take_3 b_take_4) [some .pen, some (.int many), y, none] s1 := by
    show sseq b_take_0 (sseq b_take_1 _) [some .pen, some (.int many), none, none] s = _
    rw [sseq_nx (take0 many none none s), sseq_nx e1]
  rcases take2 many y none s1 h h9 with e2 | ⟨d, s2, e2, h0, h1, q2, r2⟩
  · obtain ⟨s3, e3, q3, r3⟩ := take3 many y none s1
    obtain ⟨d, s4, e4, h0, h1, q4, r4⟩ := take4 many y none s3 h
    rw [sseq_nx e2, sseq_nx e3, e4] at e
    exact ⟨d, s4, mdef_ret e, h0, h1, by rw [q4, q3, q1], by rw [r4, r3, r1]⟩
  · rw [sseq_ret e2] at e
    exact ⟨d, s2, mdef_ret e, h0, h1, by rw [q2, q1], by rw [r2, r1]⟩
theorem of_ok (s : Pen) (xs : List D) (h : 0 < xs.length) (hl : xs.length ≤ 1000) : ∃ d s', m_of [.pen, .lst xs] s = .ok d s' ∧ d ∈ xs ∧ s'.obj = s.obj ∧ s'.ocls = s.ocls := by
  have hlog : ((xs.length : Nat) : Int).natAbs.log2 < 9000 := by
    have : ((xs.length : Nat) : Int).natAbs ≤ 1000 := by omega
    exact Nat.lt_of_le_of_lt (log2_le this) (by decide)
  obtain ⟨d, s1, e1, h0, h1, h2⟩ := take_ok s (xs.length : Nat) (by omega) hlog
  obtain ⟨j, rfl⟩ := Int.eq_ofNat_of_zero_le h0
  have hj : j < xs.length := by omega
  have hat : atI xs ((j : Nat) : Int) = some xs[j] := atI_nat (List.getElem?_eq_some_iff.mpr ⟨hj, rfl⟩)
  refine ⟨xs[j], s1, mdef_ret ?_, List.getElem_mem _, h2⟩
  unfold b_of
  walk_at "tw"
end Pn
end Tw

set_option Elab.async false
set_option linter.all false
set_option maxRecDepth 100000
set_option maxHeartbeats 4000000
set_option autoImplicit false
namespace K02
open PySem L2 PySem.Spec PyProof.Rows Tw
def topS (i : Nat) : Stmt := PySem.Challenge.pw_fourhinges_k02_forces_and_moments.main.body.getD i (.Pass ⟨0, 0, 0, 0⟩)
abbrev s__law_take : Stmt := topS 26
abbrev s__law_of : Stmt := topS 27
abbrev s__law_number : Stmt := topS 28
abbrev s__law_is_number : Stmt := topS 29
abbrev s__law_numbers : Stmt := topS 30
abbrev s__law_right : Stmt := topS 31
abbrev s__law_moment : Stmt := topS 32
abbrev s_is_number : Stmt := topS 11
abbrev s_Force___init__ : Stmt := inClass (topS 14) 0
abbrev s__law_refusals : Stmt := topS 33
abbrev s_Force___sub__ : Stmt := inClass (topS 14) 7
abbrev s_Force___add__ : Stmt := inClass (topS 14) 6
abbrev s_Force___mul__ : Stmt := inClass (topS 14) 9
abbrev s_Force___neg__ : Stmt := inClass (topS 14) 8
abbrev s_Force_none : Stmt := inClass (topS 14) 1
abbrev s_Force_is_none : Stmt := inClass (topS 14) 4
abbrev s__law_signs : Stmt := topS 34
abbrev s_Force___eq__ : Stmt := inClass (topS 14) 10
abbrev s_is_row : Stmt := topS 12
abbrev s_Load___init__ : Stmt := inClass (topS 21) 0
abbrev s_Thrust___init__ : Stmt := inClass (topS 23) 0
abbrev s__law_equal : Stmt := topS 35
abbrev s_Force_about : Stmt := inClass (topS 14) 5
abbrev s_Force_acting : Stmt := inClass (topS 14) 3
abbrev s_Force_hanging : Stmt := inClass (topS 14) 2
abbrev s__law_about : Stmt := topS 36
abbrev s__law_pen : Stmt := topS 25
abbrev s_law : Stmt := topS 37
abbrev si_BadForce : Stmt := inClass (topS 5) 0
abbrev si_BadLoad : Stmt := inClass (topS 6) 0
abbrev si_BadThrust : Stmt := inClass (topS 9) 0
theorem sc__law_take : FnScope ["_law_pen_here", "_law_many", "_law_cell", "_law_digit"] ["_law_pen_here", "_law_many"] (defScope s__law_take) := ⟨rfl, rfl, rfl, by decide +kernel, rfl, by decide +kernel, by decide +kernel⟩
theorem sc__law_of : FnScope ["_law_pen_here", "_law_some"] ["_law_pen_here", "_law_some"] (defScope s__law_of) := ⟨rfl, rfl, rfl, by decide +kernel, rfl, by decide +kernel, by decide +kernel⟩
theorem sc__law_number : FnScope ["_law_pen_here", "_law_way"] ["_law_pen_here"] (defScope s__law_number) := ⟨rfl, rfl, rfl, by decide +kernel, rfl, by decide +kernel, by decide +kernel⟩
theorem sc__law_is_number : FnScope ["_law_thing"] ["_law_thing"] (defScope s__law_is_number) := ⟨rfl, rfl, rfl, by decide +kernel, rfl, by decide +kernel, by decide +kernel⟩
theorem sc__law_numbers : FnScope ["_law_pen_here"] ["_law_pen_here"] (defScope s__law_numbers) := ⟨rfl, rfl, rfl, by decide +kernel, rfl, by decide +kernel, by decide +kernel⟩
theorem sc__law_right : FnScope ["_law_force", "_law_due", "_law_told", "_law_one"] ["_law_force", "_law_due"] (defScope s__law_right) := ⟨rfl, rfl, rfl, by decide +kernel, rfl, by decide +kernel, by decide +kernel⟩
theorem sc__law_moment : FnScope ["_law_due", "_law_point"] ["_law_due", "_law_point"] (defScope s__law_moment) := ⟨rfl, rfl, rfl, by decide +kernel, rfl, by decide +kernel, by decide +kernel⟩
theorem sc_is_number : FnScope ["thing"] ["thing"] (defScope s_is_number) := ⟨rfl, rfl, rfl, by decide +kernel, rfl, by decide +kernel, by decide +kernel⟩
theorem sc_Force___init__ : FnScope ["self", "across", "up", "moment"] ["self", "across", "up", "moment"] (defScope s_Force___init__) := ⟨rfl, rfl, rfl, by decide +kernel, rfl, by decide +kernel, by decide +kernel⟩
theorem sc__law_refusals : FnScope ["_law_pen_here", "_law_things", "_law_k", "_law_words", "_law_wrong", "_law_told", "_law_made", "e", "_law_number_here"] ["_law_pen_here"] (defScope s__law_refusals) := ⟨rfl, rfl, rfl, by decide +kernel, rfl, by decide +kernel, by decide +kernel⟩
theorem sc_Force___sub__ : FnScope ["self", "other"] ["self", "other"] (defScope s_Force___sub__) := ⟨rfl, rfl, rfl, by decide +kernel, rfl, by decide +kernel, by decide +kernel⟩
theorem sc_Force___add__ : FnScope ["self", "other"] ["self", "other"] (defScope s_Force___add__) := ⟨rfl, rfl, rfl, by decide +kernel, rfl, by decide +kernel, by decide +kernel⟩
theorem sc_Force___mul__ : FnScope ["self", "other"] ["self", "other"] (defScope s_Force___mul__) := ⟨rfl, rfl, rfl, by decide +kernel, rfl, by decide +kernel, by decide +kernel⟩
theorem sc_Force___neg__ : FnScope ["self"] ["self"] (defScope s_Force___neg__) := ⟨rfl, rfl, rfl, by decide +kernel, rfl, by decide +kernel, by decide +kernel⟩
theorem sc_Force_none : FnScope ["cls"] ["cls"] (defScope s_Force_none) := ⟨rfl, rfl, rfl, by decide +kernel, rfl, by decide +kernel, by decide +kernel⟩
theorem sc_Force_is_none : FnScope ["self"] ["self"] (defScope s_Force_is_none) := ⟨rfl, rfl, rfl, by decide +kernel, rfl, by decide +kernel, by decide +kernel⟩
theorem sc__law_signs : FnScope ["_law_one", "_law_other", "_law_times", "_law_due", "_law_f", "_law_g", "_law_told", "_law_numbers_here", "_law_k", "_law_number_here"] ["_law_one", "_law_other", "_law_times"] (defScope s__law_signs) := ⟨rfl, rfl, rfl, by decide +kernel, rfl, by decide +kernel, by decide +kernel⟩
theorem sc_Force___eq__ : FnScope ["self", "other"] ["self", "other"] (defScope s_Force___eq__) := ⟨rfl, rfl, rfl, by decide +kernel, rfl, by decide +kernel, by decide +kernel⟩
theorem sc_is_row : FnScope ["thing", "least", "most"] ["thing", "least", "most"] (defScope s_is_row) := ⟨rfl, rfl, rfl, by decide +kernel, rfl, by decide +kernel, by decide +kernel⟩
theorem sc_Load___init__ : FnScope ["self", "forces", "force"] ["self", "forces"] (defScope s_Load___init__) := ⟨rfl, rfl, rfl, by decide +kernel, rfl, by decide +kernel, by decide +kernel⟩
theorem sc_Thrust___init__ : FnScope ["self", "force", "parts", "divisor"] ["self", "force", "parts"] (defScope s_Thrust___init__) := ⟨rfl, rfl, rfl, by decide +kernel, rfl, by decide +kernel, by decide +kernel⟩
theorem sc__law_equal : FnScope ["_law_pen_here", "_law_one", "_law_f", "_law_at", "_law_step", "_law_other", "_law_g", "_law_k"] ["_law_pen_here", "_law_one"] (defScope s__law_equal) := ⟨rfl, rfl, rfl, by decide +kernel, rfl, by decide +kernel, by decide +kernel⟩
theorem sc_Force_about : FnScope ["self", "point", "x", "y"] ["self", "point"] (defScope s_Force_about) := ⟨rfl, rfl, rfl, by decide +kernel, rfl, by decide +kernel, by decide +kernel⟩
theorem sc_Force_acting : FnScope ["cls", "across", "up", "point", "x", "y"] ["cls", "across", "up", "point"] (defScope s_Force_acting) := ⟨rfl, rfl, rfl, by decide +kernel, rfl, by decide +kernel, by decide +kernel⟩
theorem sc_Force_hanging : FnScope ["cls", "weight", "x"] ["cls", "weight", "x"] (defScope s_Force_hanging) := ⟨rfl, rfl, rfl, by decide +kernel, rfl, by decide +kernel, by decide +kernel⟩
theorem sc__law_about : FnScope ["_law_pen_here", "_law_one", "_law_other", "_law_point", "_law_acting", "_law_hanging", "_law_f", "_law_g"] ["_law_pen_here", "_law_one", "_law_other"] (defScope s__law_about) := ⟨rfl, rfl, rfl, by decide +kernel, rfl, by decide +kernel, by decide +kernel⟩
theorem sc__law_pen : FnScope ["_law_script", "_law_seed", "_law_cell"] ["_law_script"] (defScope s__law_pen) := ⟨rfl, rfl, rfl, by decide +kernel, rfl, by decide +kernel, by decide +kernel⟩
theorem sc_law : FnScope ["_law_script", "_law_pen_here", "_law_one", "_law_other"] ["_law_script"] (defScope s_law) := ⟨rfl, rfl, rfl, by decide +kernel, rfl, by decide +kernel, by decide +kernel⟩
theorem sci_BadForce : FnScope ["self", "what"] ["self", "what"] (defScope si_BadForce) := ⟨rfl, rfl, rfl, by decide +kernel, rfl, by decide +kernel, by decide +kernel⟩
theorem sci_BadLoad : FnScope ["self", "what"] ["self", "what"] (defScope si_BadLoad) := ⟨rfl, rfl, rfl, by decide +kernel, rfl, by decide +kernel, by decide +kernel⟩
theorem sci_BadThrust : FnScope ["self"] ["self"] (defScope si_BadThrust) := ⟨rfl, rfl, rfl, by decide +kernel, rfl, by decide +kernel, by decide +kernel⟩
structure Ad where
  f__law_take : Addr
  d__law_take : FuncData
  f__law_of : Addr
  d__law_of : FuncData
  f__law_number : Addr
  d__law_number : FuncData
  f__law_is_number : Addr
  d__law_is_number : FuncData
  f__law_numbers : Addr
  d__law_numbers : FuncData
  f__law_right : Addr
  d__law_right : FuncData
  f__law_moment : Addr
  d__law_moment : FuncData
  f_is_number : Addr
  d_is_number : FuncData
  f_Force___init__ : Addr
  d_Force___init__ : FuncData
  f__law_refusals : Addr
  d__law_refusals : FuncData
  f_Force___sub__ : Addr
  d_Force___sub__ : FuncData
  f_Force___add__ : Addr
  d_Force___add__ : FuncData
  f_Force___mul__ : Addr
  d_Force___mul__ : FuncData
  f_Force___neg__ : Addr
  d_Force___neg__ : FuncData
  f_Force_none : Addr
  d_Force_none : FuncData
  p_Force_none : Addr
  v_Force_none : Value
  f_Force_is_none : Addr
  d_Force_is_none : FuncData
  p_Force_is_none : Addr
  f__law_signs : Addr
  d__law_signs : FuncData
  f_Force___eq__ : Addr
  d_Force___eq__ : FuncData
  f_is_row : Addr
  d_is_row : FuncData
  f_Load___init__ : Addr
  d_Load___init__ : FuncData
  f_Thrust___init__ : Addr
  d_Thrust___init__ : FuncData
  f__law_equal : Addr
  d__law_equal : FuncData
  f_Force_about : Addr
  d_Force_about : FuncData
  f_Force_acting : Addr
  d_Force_acting : FuncData
  p_Force_acting : Addr
  v_Force_acting : Value
  f_Force_hanging : Addr
  d_Force_hanging : FuncData
  p_Force_hanging : Addr
  v_Force_hanging : Value
  f__law_about : Addr
  d__law_about : FuncData
  f__law_pen : Addr
  d__law_pen : FuncData
  f_law : Addr
  d_law : FuncData
  c_BridgeError : Addr
  c_BadRatio : Addr
  c_BadForce : Addr
  i_BadForce : Addr
  di_BadForce : FuncData
  c_BadLoad : Addr
  i_BadLoad : Addr
  di_BadLoad : FuncData
  c_OtherSize : Addr
  c_NoStone : Addr
  c_BadThrust : Addr
  i_BadThrust : Addr
  di_BadThrust : FuncData
  c_Force : Addr
  c_Load : Addr
  c_Thrust : Addr
  tk_MOST_STONES : Tok
def gt (a : Ad) : Gt := ⟨fun n => match n with
  | 0 => a.c_BridgeError
  | 1 => a.c_BadRatio
  | 2 => a.c_BadForce
  | 3 => a.c_BadLoad
  | 4 => a.c_OtherSize
  | 5 => a.c_NoStone
  | 6 => a.c_BadThrust
  | 7 => a.c_Force
  | 8 => a.c_Load
  | 9 => a.c_Thrust
  | _ => 0, none⟩
def ans : String ⊕ Nat → String ⊕ Nat → Option Bool := fun t c => match t, c with
  | .inr 7, .inr 7 => some true
  | .inr 7, .inl "bool" => some false
  | .inr 7, .inl "int" => some false
  | .inr 7, .inl "list" => some false
  | .inr 7, .inl "tuple" => some false
  | .inr 8, .inr 7 => some false
  | .inr 8, .inl "bool" => some false
  | .inr 8, .inl "int" => some false
  | .inr 8, .inl "list" => some false
  | .inr 8, .inl "tuple" => some false
  | .inl "NoneType", .inr 7 => some false
  | .inr 9, .inr 7 => some false
  | .inr 9, .inl "bool" => some false
  | .inr 9, .inl "int" => some false
  | .inr 9, .inl "list" => some false
  | .inr 9, .inl "tuple" => some false
  | .inl "bool", .inr 7 => some false
  | .inl "int", .inr 7 => some false
  | .inl "list", .inr 7 => some false
  | .inl "str", .inr 7 => some false
  | .inl "tuple", .inr 7 => some false
  | _, _ => none
def ansE : String ⊕ Nat → String ⊕ Nat → Option Bool := fun t c => match t, c with
  | _, _ => none
def nf_Force : String ⊕ Nat → Bool := fun t => match t with
  | .inl "NoneType" => true
  | .inl "bool" => true
  | .inl "int" => true
  | .inl "str" => true
  | .inl "list" => true
  | .inl "tuple" => true
  | .inr 7 => true
  | .inr 8 => true
  | .inr 9 => true
  | _ => false
def cf_moment : Nat → Bool := fun n => match n with
  | 7 => true
  | _ => false
def cf_up : Nat → Bool := fun n => match n with
  | 7 => true
  | _ => false
def cf_across : Nat → Bool := fun n => match n with
  | 7 => true
  | _ => false
def cf_forces : Nat → Bool := fun n => match n with
  | 8 => true
  | _ => false
def cf_force : Nat → Bool := fun n => match n with
  | 9 => true
  | _ => false
def cf_parts : Nat → Bool := fun n => match n with
  | 9 => true
  | _ => false
def mt_BadForce : Nat → Option Bool := fun n => match n with
  | 2 => some true
  | 3 => some false
  | 6 => some false
  | _ => none
structure Txt (K : PySem.W.Frag) (mg : Str → Option Value) (a : Ad) : Prop where
  t__law_take : FunD K "_law_take" "_law_take" (defArgs s__law_take) (defBody s__law_take) (defScope s__law_take) [] [] a.f__law_take a.d__law_take
  m__law_take : mg "_law_take" = some (.ref a.f__law_take)
  b__law_take : L2.Binds K a.d__law_take ["_law_pen_here", "_law_many"] []
  t__law_of : FunD K "_law_of" "_law_of" (defArgs s__law_of) (defBody s__law_of) (defScope s__law_of) [] [] a.f__law_of a.d__law_of
  m__law_of : mg "_law_of" = some (.ref a.f__law_of)
  b__law_of : L2.Binds K a.d__law_of ["_law_pen_here", "_law_some"] []
  t__law_number : FunD K "_law_number" "_law_number" (defArgs s__law_number) (defBody s__law_number) (defScope s__law_number) [] [] a.f__law_number a.d__law_number
  m__law_number : mg "_law_number" = some (.ref a.f__law_number)
  b__law_number : L2.Binds K a.d__law_number ["_law_pen_here"] []
  t__law_is_number : FunD K "_law_is_number" "_law_is_number" (defArgs s__law_is_number) (defBody s__law_is_number) (defScope s__law_is_number) [] [] a.f__law_is_number a.d__law_is_number
  m__law_is_number : mg "_law_is_number" = some (.ref a.f__law_is_number)
  b__law_is_number : L2.Binds K a.d__law_is_number ["_law_thing"] []
  t__law_numbers : FunD K "_law_numbers" "_law_numbers" (defArgs s__law_numbers) (defBody s__law_numbers) (defScope s__law_numbers) [] [] a.f__law_numbers a.d__law_numbers
  m__law_numbers : mg "_law_numbers" = some (.ref a.f__law_numbers)
  b__law_numbers : L2.Binds K a.d__law_numbers ["_law_pen_here"] []
  t__law_right : FunD K "_law_right" "_law_right" (defArgs s__law_right) (defBody s__law_right) (defScope s__law_right) [] [] a.f__law_right a.d__law_right
  m__law_right : mg "_law_right" = some (.ref a.f__law_right)
  b__law_right : L2.Binds K a.d__law_right ["_law_force", "_law_due"] []
  t__law_moment : FunD K "_law_moment" "_law_moment" (defArgs s__law_moment) (defBody s__law_moment) (defScope s__law_moment) [] [] a.f__law_moment a.d__law_moment
  m__law_moment : mg "_law_moment" = some (.ref a.f__law_moment)
  b__law_moment : L2.Binds K a.d__law_moment ["_law_due", "_law_point"] []
  t_is_number : FunD K "is_number" "is_number" (defArgs s_is_number) (defBody s_is_number) (defScope s_is_number) [] [] a.f_is_number a.d_is_number
  m_is_number : mg "is_number" = some (.ref a.f_is_number)
  b_is_number : L2.Binds K a.d_is_number ["thing"] []
  t_Force___init__ : FunD K "__init__" "Force.__init__" (defArgs s_Force___init__) (defBody s_Force___init__) (defScope s_Force___init__) [] [] a.f_Force___init__ a.d_Force___init__
  b_Force___init__ : L2.Binds K a.d_Force___init__ ["self", "across", "up", "moment"] []
  t__law_refusals : FunD K "_law_refusals" "_law_refusals" (defArgs s__law_refusals) (defBody s__law_refusals) (defScope s__law_refusals) [] [] a.f__law_refusals a.d__law_refusals
  m__law_refusals : mg "_law_refusals" = some (.ref a.f__law_refusals)
  b__law_refusals : L2.Binds K a.d__law_refusals ["_law_pen_here"] []
  t_Force___sub__ : FunD K "__sub__" "Force.__sub__" (defArgs s_Force___sub__) (defBody s_Force___sub__) (defScope s_Force___sub__) [] [] a.f_Force___sub__ a.d_Force___sub__
  b_Force___sub__ : L2.Binds K a.d_Force___sub__ ["self", "other"] []
  t_Force___add__ : FunD K "__add__" "Force.__add__" (defArgs s_Force___add__) (defBody s_Force___add__) (defScope s_Force___add__) [] [] a.f_Force___add__ a.d_Force___add__
  b_Force___add__ : L2.Binds K a.d_Force___add__ ["self", "other"] []
  t_Force___mul__ : FunD K "__mul__" "Force.__mul__" (defArgs s_Force___mul__) (defBody s_Force___mul__) (defScope s_Force___mul__) [] [] a.f_Force___mul__ a.d_Force___mul__
  b_Force___mul__ : L2.Binds K a.d_Force___mul__ ["self", "other"] []
  t_Force___neg__ : FunD K "__neg__" "Force.__neg__" (defArgs s_Force___neg__) (defBody s_Force___neg__) (defScope s_Force___neg__) [] [] a.f_Force___neg__ a.d_Force___neg__
  b_Force___neg__ : L2.Binds K a.d_Force___neg__ ["self"] []
  t_Force_none : FunD K "none" "Force.none" (defArgs s_Force_none) (defBody s_Force_none) (defScope s_Force_none) [] [] a.f_Force_none a.d_Force_none
  b_Force_none : L2.Binds K a.d_Force_none ["cls"] []
  t_Force_is_none : FunD K "is_none" "Force.is_none" (defArgs s_Force_is_none) (defBody s_Force_is_none) (defScope s_Force_is_none) [] [] a.f_Force_is_none a.d_Force_is_none
  b_Force_is_none : L2.Binds K a.d_Force_is_none ["self"] []
  t__law_signs : FunD K "_law_signs" "_law_signs" (defArgs s__law_signs) (defBody s__law_signs) (defScope s__law_signs) [] [] a.f__law_signs a.d__law_signs
  m__law_signs : mg "_law_signs" = some (.ref a.f__law_signs)
  b__law_signs : L2.Binds K a.d__law_signs ["_law_one", "_law_other", "_law_times"] []
  t_Force___eq__ : FunD K "__eq__" "Force.__eq__" (defArgs s_Force___eq__) (defBody s_Force___eq__) (defScope s_Force___eq__) [] [] a.f_Force___eq__ a.d_Force___eq__
  b_Force___eq__ : L2.Binds K a.d_Force___eq__ ["self", "other"] []
  t_is_row : FunD K "is_row" "is_row" (defArgs s_is_row) (defBody s_is_row) (defScope s_is_row) [] [] a.f_is_row a.d_is_row
  m_is_row : mg "is_row" = some (.ref a.f_is_row)
  b_is_row : L2.Binds K a.d_is_row ["thing", "least", "most"] []
  t_Load___init__ : FunD K "__init__" "Load.__init__" (defArgs s_Load___init__) (defBody s_Load___init__) (defScope s_Load___init__) [] [] a.f_Load___init__ a.d_Load___init__
  b_Load___init__ : L2.Binds K a.d_Load___init__ ["self", "forces"] []
  t_Thrust___init__ : FunD K "__init__" "Thrust.__init__" (defArgs s_Thrust___init__) (defBody s_Thrust___init__) (defScope s_Thrust___init__) [.int 1] [] a.f_Thrust___init__ a.d_Thrust___init__
  b_Thrust___init__ : L2.Binds K a.d_Thrust___init__ ["self", "force", "parts"] []
  bd1_Thrust___init__ : ∃ dl, Vals [.int 1] dl ∧ L2.Binds K a.d_Thrust___init__ ["self", "force", "parts"] dl
  t__law_equal : FunD K "_law_equal" "_law_equal" (defArgs s__law_equal) (defBody s__law_equal) (defScope s__law_equal) [] [] a.f__law_equal a.d__law_equal
  m__law_equal : mg "_law_equal" = some (.ref a.f__law_equal)
  b__law_equal : L2.Binds K a.d__law_equal ["_law_pen_here", "_law_one"] []
  t_Force_about : FunD K "about" "Force.about" (defArgs s_Force_about) (defBody s_Force_about) (defScope s_Force_about) [] [] a.f_Force_about a.d_Force_about
  b_Force_about : L2.Binds K a.d_Force_about ["self", "point"] []
  t_Force_acting : FunD K "acting" "Force.acting" (defArgs s_Force_acting) (defBody s_Force_acting) (defScope s_Force_acting) [] [] a.f_Force_acting a.d_Force_acting
  b_Force_acting : L2.Binds K a.d_Force_acting ["cls", "across", "up", "point"] []
  t_Force_hanging : FunD K "hanging" "Force.hanging" (defArgs s_Force_hanging) (defBody s_Force_hanging) (defScope s_Force_hanging) [] [] a.f_Force_hanging a.d_Force_hanging
  b_Force_hanging : L2.Binds K a.d_Force_hanging ["cls", "weight", "x"] []
  t__law_about : FunD K "_law_about" "_law_about" (defArgs s__law_about) (defBody s__law_about) (defScope s__law_about) [] [] a.f__law_about a.d__law_about
  m__law_about : mg "_law_about" = some (.ref a.f__law_about)
  b__law_about : L2.Binds K a.d__law_about ["_law_pen_here", "_law_one", "_law_other"] []
  t__law_pen : FunD K "_law_pen" "_law_pen" (defArgs s__law_pen) (defBody s__law_pen) (defScope s__law_pen) [] [] a.f__law_pen a.d__law_pen
  m__law_pen : mg "_law_pen" = some (.ref a.f__law_pen)
  b__law_pen : L2.Binds K a.d__law_pen ["_law_script"] []
  t_law : FunD K "law" "law" (defArgs s_law) (defBody s_law) (defScope s_law) [] [] a.f_law a.d_law
  m_law : mg "law" = some (.ref a.f_law)
  b_law : L2.Binds K a.d_law ["_law_script"] []
  m_BridgeError : mg "BridgeError" = some (.ref a.c_BridgeError)
  m_BadRatio : mg "BadRatio" = some (.ref a.c_BadRatio)
  m_BadForce : mg "BadForce" = some (.ref a.c_BadForce)
  m_BadLoad : mg "BadLoad" = some (.ref a.c_BadLoad)
  m_OtherSize : mg "OtherSize" = some (.ref a.c_OtherSize)
  m_NoStone : mg "NoStone" = some (.ref a.c_NoStone)
  m_BadThrust : mg "BadThrust" = some (.ref a.c_BadThrust)
  m_Force : mg "Force" = some (.ref a.c_Force)
  m_Load : mg "Load" = some (.ref a.c_Load)
  m_Thrust : mg "Thrust" = some (.ref a.c_Thrust)
  cl_Force : L2.Cls K a.c_Force
  na_Force_moment : L2.NoAttr K a.c_Force "moment"
  na_Force_up : L2.NoAttr K a.c_Force "up"
  na_Force_across : L2.NoAttr K a.c_Force "across"
  cl_Load : L2.Cls K a.c_Load
  na_Load_forces : L2.NoAttr K a.c_Load "forces"
  cl_Thrust : L2.Cls K a.c_Thrust
  na_Thrust_force : L2.NoAttr K a.c_Thrust "force"
  na_Thrust_parts : L2.NoAttr K a.c_Thrust "parts"
  mk_Force : MkC K mg "Force" a.c_Force a.f_Force___init__ a.d_Force___init__ ["self", "across", "up", "moment"] []
  mk_Load : MkC K mg "Load" a.c_Load a.f_Load___init__ a.d_Load___init__ ["self", "forces"] []
  mk_Thrust : MkC K mg "Thrust" a.c_Thrust a.f_Thrust___init__ a.d_Thrust___init__ ["self", "force", "parts"] []
  mk1_Thrust : MkC K mg "Thrust" a.c_Thrust a.f_Thrust___init__ a.d_Thrust___init__ ["self", "force", "parts"] bd1_Thrust___init__.choose
  op_Force___sub__ : Opr K a.c_Force .Sub a.f_Force___sub__ a.d_Force___sub__ ["self", "other"]
  op_Force___add__ : Opr K a.c_Force .Add a.f_Force___add__ a.d_Force___add__ ["self", "other"]
  op_Force___mul__ : Opr K a.c_Force .Mult a.f_Force___mul__ a.d_Force___mul__ ["self", "other"]
  oi_Force___mul__ : OprI K a.c_Force .Mult
  ng_Force___neg__ : Ong K a.c_Force a.f_Force___neg__ a.d_Force___neg__ ["self"]
  eq_Force___eq__ : Oeq K a.c_Force a.f_Force___eq__ a.d_Force___eq__ ["self", "other"]
  nq_Force_NoneType : PySem.W.notFirst K a.c_Force (.type "NoneType") = true
  nq_Force_bool : PySem.W.notFirst K a.c_Force (.type "bool") = true
  nq_Force_int : PySem.W.notFirst K a.c_Force (.type "int") = true
  nq_Force_str : PySem.W.notFirst K a.c_Force (.type "str") = true
  nq_Force_list : PySem.W.notFirst K a.c_Force (.type "list") = true
  nq_Force_tuple : PySem.W.notFirst K a.c_Force (.type "tuple") = true
  nq_Force_Force : PySem.W.notFirst K a.c_Force (.ref a.c_Force) = true
  nq_Force_Load : PySem.W.notFirst K a.c_Force (.ref a.c_Load) = true
  nq_Force_Thrust : PySem.W.notFirst K a.c_Force (.ref a.c_Thrust) = true
  no_Force : One K a.c_Force
  pr_Force_is_none : Prp K a.c_Force "is_none" ["self"] a.p_Force_is_none a.f_Force_is_none a.d_Force_is_none
  cm_Force_none : Cmt K a.c_Force "none" ["cls"] [] a.v_Force_none a.p_Force_none a.f_Force_none a.d_Force_none
  cm_Force_acting : Cmt K a.c_Force "acting" ["cls", "across", "up", "point"] [] a.v_Force_acting a.p_Force_acting a.f_Force_acting a.d_Force_acting
  cm_Force_hanging : Cmt K a.c_Force "hanging" ["cls", "weight", "x"] [] a.v_Force_hanging a.p_Force_hanging a.f_Force_hanging a.d_Force_hanging
  mt_Force_about : Mtd K a.c_Force "about" ["self", "point"] [] a.f_Force_about a.d_Force_about
  e_BadForce : ErrN K mg "BadForce" a.c_BadForce a.i_BadForce si_BadForce "BadForce.__init__" a.di_BadForce ["self", "what"]
  xn_BadForce_what : PySem.W.findIn K (.ref a.c_BadForce) "what" = some none
  e_BadLoad : ErrN K mg "BadLoad" a.c_BadLoad a.i_BadLoad si_BadLoad "BadLoad.__init__" a.di_BadLoad ["self", "what"]
  xn_BadLoad_what : PySem.W.findIn K (.ref a.c_BadLoad) "what" = some none
  e_BadThrust : Err0 K mg "BadThrust" a.c_BadThrust a.i_BadThrust si_BadThrust "BadThrust.__init__" a.di_BadThrust
  xm_BadForce_BadForce : PySem.W.exmOne K (.ref a.c_BadForce) (.ref a.c_BadForce) = some true
  xm_BadLoad_BadForce : PySem.W.exmOne K (.ref a.c_BadLoad) (.ref a.c_BadForce) = some false
  xm_BadThrust_BadForce : PySem.W.exmOne K (.ref a.c_BadThrust) (.ref a.c_BadForce) = some false
  y_BadForce : ExcC K a.c_BadForce
  kt_Force_Force : PySem.W.kitOne K (.ref a.c_Force) (.ref a.c_Force) = some true
  kt_Force_bool : PySem.W.kitOne K (.ref a.c_Force) (.type "bool") = some false
  kt_Force_int : PySem.W.kitOne K (.ref a.c_Force) (.type "int") = some false
  kt_Force_list : PySem.W.kitOne K (.ref a.c_Force) (.type "list") = some false
  kt_Force_tuple : PySem.W.kitOne K (.ref a.c_Force) (.type "tuple") = some false
  kt_Load_Force : PySem.W.kitOne K (.ref a.c_Load) (.ref a.c_Force) = some false
  kt_Load_bool : PySem.W.kitOne K (.ref a.c_Load) (.type "bool") = some false
  kt_Load_int : PySem.W.kitOne K (.ref a.c_Load) (.type "int") = some false
  kt_Load_list : PySem.W.kitOne K (.ref a.c_Load) (.type "list") = some false
  kt_Load_tuple : PySem.W.kitOne K (.ref a.c_Load) (.type "tuple") = some false
  kt_NoneType_Force : PySem.W.kitOne K (.type "NoneType") (.ref a.c_Force) = some false
  kt_Thrust_Force : PySem.W.kitOne K (.ref a.c_Thrust) (.ref a.c_Force) = some false
  kt_Thrust_bool : PySem.W.kitOne K (.ref a.c_Thrust) (.type "bool") = some false
  kt_Thrust_int : PySem.W.kitOne K (.ref a.c_Thrust) (.type "int") = some false
  kt_Thrust_list : PySem.W.kitOne K (.ref a.c_Thrust) (.type "list") = some false
  kt_Thrust_tuple : PySem.W.kitOne K (.ref a.c_Thrust) (.type "tuple") = some false
  kt_bool_Force : PySem.W.kitOne K (.type "bool") (.ref a.c_Force) = some false
  kt_int_Force : PySem.W.kitOne K (.type "int") (.ref a.c_Force) = some false
  kt_list_Force : PySem.W.kitOne K (.type "list") (.ref a.c_Force) = some false
  kt_str_Force : PySem.W.kitOne K (.type "str") (.ref a.c_Force) = some false
  kt_tuple_Force : PySem.W.kitOne K (.type "tuple") (.ref a.c_Force) = some false
  isc_Force : Isc K a.c_Force
  isc_Load : Isc K a.c_Load
  isc_Thrust : Isc K a.c_Thrust
  gi_MOST_STONES : mg "MOST_STONES" = some (.int 8 a.tk_MOST_STONES)
  n_all : mg "all" = none
  n_bool : mg "bool" = none
  n_int : mg "int" = none
  n_isinstance : mg "isinstance" = none
  n_len : mg "len" = none
  n_list : mg "list" = none
  n_range : mg "range" = none
  n_str : mg "str" = none
  n_tuple : mg "tuple" = none
  g_gcd : mg "gcd" = some (.builtin "math.gcd")
noncomputable section
variable {P : Program} {w : World} {K : PySem.W.Frag} {mg : Str → Option Value} {base : Heap} {a : Ad}
theorem isaO (T : Txt K mg a) : ∀ t c b, ans t c = some b → PySem.W.kitOne K (tyV (gt a) t) (tyV (gt a) c) = some b := by
  intro t c b h
  unfold ans at h
  split at h
  · cases h; exact T.kt_Force_Force
  · cases h; exact T.kt_Force_bool
  · cases h; exact T.kt_Force_int
  · cases h; exact T.kt_Force_list
  · cases h; exact T.kt_Force_tuple
  · cases h; exact T.kt_Load_Force
  · cases h; exact T.kt_Load_bool
  · cases h; exact T.kt_Load_int
  · cases h; exact T.kt_Load_list
  · cases h; exact T.kt_Load_tuple
  · cases h; exact T.kt_NoneType_Force
  · cases h; exact T.kt_Thrust_Force
  · cases h; exact T.kt_Thrust_bool
  · cases h; exact T.kt_Thrust_int
  · cases h; exact T.kt_Thrust_list
  · cases h; exact T.kt_Thrust_tuple
  · cases h; exact T.kt_bool_Force
  · cases h; exact T.kt_int_Force
  · cases h; exact T.kt_list_Force
  · cases h; exact T.kt_str_Force
  · cases h; exact T.kt_tuple_Force
  · cases h
theorem isaE (T : Txt K mg a) : ∀ t c b, ansE t c = some b → PySem.W.kitOne K (tyV (gt a) t) (tyV (gt a) c) = some b := by
  intro t c b h
  unfold ansE at h
  split at h
  · cases h
theorem isa (T : Txt K mg a) : IsA (gt a) K ans := by
  refine ⟨isaO T, ?_⟩
  intro n c b h
  unfold ans at h
  split at h
  · rename_i hn; cases hn; exact T.isc_Force
  · rename_i hn; cases hn; exact T.isc_Force
  · rename_i hn; cases hn; exact T.isc_Force
  · rename_i hn; cases hn; exact T.isc_Force
  · rename_i hn; cases hn; exact T.isc_Force
  · rename_i hn; cases hn; exact T.isc_Load
  · rename_i hn; cases hn; exact T.isc_Load
  · rename_i hn; cases hn; exact T.isc_Load
  · rename_i hn; cases hn; exact T.isc_Load
  · rename_i hn; cases hn; exact T.isc_Load
  · rename_i hn; cases hn
  · rename_i hn; cases hn; exact T.isc_Thrust
  · rename_i hn; cases hn; exact T.isc_Thrust
  · rename_i hn; cases hn; exact T.isc_Thrust
  · rename_i hn; cases hn; exact T.isc_Thrust
  · rename_i hn; cases hn; exact T.isc_Thrust
  · rename_i hn; cases hn
  · rename_i hn; cases hn
  · rename_i hn; cases hn
  · rename_i hn; cases hn
  · rename_i hn; cases hn
  · cases h
theorem nfk_Force (T : Txt K mg a) : ∀ t, nf_Force t = true → PySem.W.notFirst K ((gt a).cls 7) (tyV (gt a) t) = true := by
  intro t h
  unfold nf_Force at h
  split at h
  · exact T.nq_Force_NoneType
  · exact T.nq_Force_bool
  · exact T.nq_Force_int
  · exact T.nq_Force_str
  · exact T.nq_Force_list
  · exact T.nq_Force_tuple
  · exact T.nq_Force_Force
  · exact T.nq_Force_Load
  · exact T.nq_Force_Thrust
  · cases h
theorem fk_moment (T : Txt K mg a) : FldOk (gt a) K "moment" cf_moment := by
  intro n h
  unfold cf_moment at h
  split at h
  · exact ⟨T.cl_Force, T.na_Force_moment⟩
  · cases h
theorem fk_up (T : Txt K mg a) : FldOk (gt a) K "up" cf_up := by
  intro n h
  unfold cf_up at h
  split at h
  · exact ⟨T.cl_Force, T.na_Force_up⟩
  · cases h
theorem fk_across (T : Txt K mg a) : FldOk (gt a) K "across" cf_across := by
  intro n h
  unfold cf_across at h
  split at h
  · exact ⟨T.cl_Force, T.na_Force_across⟩
  · cases h
theorem fk_forces (T : Txt K mg a) : FldOk (gt a) K "forces" cf_forces := by
  intro n h
  unfold cf_forces at h
  split at h
  · exact ⟨T.cl_Load, T.na_Load_forces⟩
  · cases h
theorem fk_force (T : Txt K mg a) : FldOk (gt a) K "force" cf_force := by
  intro n h
  unfold cf_force at h
  split at h
  · exact ⟨T.cl_Thrust, T.na_Thrust_force⟩
  · cases h
theorem fk_parts (T : Txt K mg a) : FldOk (gt a) K "parts" cf_parts := by
  intro n h
  unfold cf_parts at h
  split at h
  · exact ⟨T.cl_Thrust, T.na_Thrust_parts⟩
  · cases h
theorem hmt_BadForce (T : Txt K mg a) : ∀ c b, mt_BadForce c = some b → PySem.W.exmOne K (.ref ((gt a).cls c)) (.ref ((gt a).cls 2)) = some b := by
  intro c b h
  unfold mt_BadForce at h
  split at h
  · cases h; exact T.xm_BadForce_BadForce
  · cases h; exact T.xm_BadLoad_BadForce
  · cases h; exact T.xm_BadThrust_BadForce
  · cases h
theorem ec_BadForce (T : Txt K mg a) {c : Nat} (h : mt_BadForce c = some true) : ExcC K ((gt a).cls c) := by
  unfold mt_BadForce at h
  split at h
  · exact T.y_BadForce
  · cases h
  · cases h
  · cases h
theorem xf_BadForce (T : Txt K mg a) {c : Nat} (h : mt_BadForce c = some true) : XfC K ((gt a).cls c) := ⟨(ec_BadForce T h).hg, (ec_BadForce T h).hk, (ec_BadForce T h).hs, (ec_BadForce T h).hd⟩
theorem xn_BadForce_what (T : Txt K mg a) (c : Nat) (h : mt_BadForce c = some true) : PySem.W.findIn K (.ref ((gt a).cls c)) "what" = some none := by
  unfold mt_BadForce at h
  split at h
  · exact T.xn_BadForce_what
  · cases h
  · cases h
  · cases h
theorem oke_BadForce (T : Txt K mg a) : FnOk P w K mg base (L2.CX P w) 1 a.i_BadForce a.di_BadForce ["self", "what"] (spX1 a.c_BadForce "what") := ok_x1 T.e_BadForce.fn sci_BadForce rfl T.e_BadForce.ox T.xn_BadForce_what
theorem oke_BadLoad (T : Txt K mg a) : FnOk P w K mg base (L2.CX P w) 1 a.i_BadLoad a.di_BadLoad ["self", "what"] (spX1 a.c_BadLoad "what") := ok_x1 T.e_BadLoad.fn sci_BadLoad rfl T.e_BadLoad.ox T.xn_BadLoad_what
def b__law_take_0 : MS := (penPut (mvar 0) (kOp addIL (penGet (mvar 0) .turn) (kC (.int 1))) .turn)
def b__law_take_1 : MS := (zIf (kAnd (kB (kOp eqA (penGet (mvar 0) .digits) (kC (.int 0)))) (kB (kOp ltI (penGet (mvar 0) .next) (kCall lenD (aCons (penGet (mvar 0) .cells) aNil))))) (sseq (sasg (kCall intD (aCons (kOp itemD (penGet (mvar 0) .cells) (penGet (mvar 0) .next)) aNil)) (gnm 2)) (sseq (penPut (mvar 0) (kOp addIL (penGet (mvar 0) .next) (kC (.int 1))) .next) (zIf (kB (kOp geI (mvar 2) (kOp powI (kC (.int 10)) (kC (.int 18))))) (sseq (penPut (mvar 0) (kOp subI (mvar 2) (kOp powI (kC (.int 10)) (kC (.int 18)))) .rest) (penPut (mvar 0) (kC (.int 40)) .digits)) (penPut (mvar 0) (kOp fmdI (kCall intD (aCons (kOp addIL (kOp addIL (kOp mulI (penGet (mvar 0) .seed) (kC (.int 39373))) (kOp fmdI (mvar 2) (kC (.int 2147483423)))) (kC (.int 7))) aNil)) (kC (.int 2147483489))) .seed)))) zNx)
def b__law_take_2 : MS := (zIf (kB (kOp gtI (penGet (mvar 0) .digits) (kC (.int 0)))) (sseq (penPut (mvar 0) (kOp subI (penGet (mvar 0) .digits) (kC (.int 1))) .digits) (sseq (sasg (kOp fmdI (kCall intD (aCons (penGet (mvar 0) .rest) aNil)) (mvar 1)) (gnm 3)) (sseq (penPut (mvar 0) (kOp fdvI (penGet (mvar 0) .rest) (mvar 1)) .rest) (zRet (mvar 3))))) zNx)
def b__law_take_3 : MS := (penPut (mvar 0) (kOp fmdI (kCall intD (aCons (kOp addIL (kOp addIL (kOp mulI (penGet (mvar 0) .seed) (kC (.int 48271))) (kOp mulI (kC (.int 13)) (penGet (mvar 0) .turn))) (kC (.int 5))) aNil)) (kC (.int 2147483647))) .seed)
def b__law_take_4 : MS := (zRet (kOp fmdI (kOp fdvI (kOp fmdI (kCall intD (aCons (kOp mulI (penGet (mvar 0) .seed) (kC (.int 16807))) aNil)) (kC (.int 2147483629))) (kC (.int 64))) (mvar 1)))
def b__law_take : MS := (sseq b__law_take_0 (sseq b__law_take_1 (sseq b__law_take_2 (sseq b__law_take_3 b__law_take_4))))
def m__law_take : List D → M D := mdef 4 b__law_take
theorem ok__law_take (T : Txt K mg a) : FnOk P w K mg base (L2.CX P w) 1 a.f__law_take a.d__law_take ["_law_pen_here", "_law_many"] (spM (gt a) 2 m__law_take) :=
  ok_fd T.t__law_take sc__law_take rfl fun cdv A outer s H E hr => by
    have tk0 := takes_of (X := (cxOf (L2.CX P w) P w K mg base ["_law_pen_here", "_law_many", "_law_cell", "_law_digit"] "_law_take" (defScope s__law_take) a.f__law_take cdv A outer s H E)) (E := E) rfl rfl rfl rfl
    have po0 : PassesOwn (model P w) (cxOf (L2.CX P w) P w K mg base ["_law_pen_here", "_law_many", "_law_cell", "_law_digit"] "_law_take" (defScope s__law_take) a.f__law_take cdv A outer s H E).A (cxOf (L2.CX P w) P w K mg base ["_law_pen_here", "_law_many", "_law_cell", "_law_digit"] "_law_take" (defScope s__law_take) a.f__law_take cdv A outer s H E).env (cxOf (L2.CX P w) P w K mg base ["_law_pen_here", "_law_many", "_law_cell", "_law_digit"] "_law_take" (defScope s__law_take) a.f__law_take cdv A outer s H E).xe := passes_of rfl
    exact ⟨_, (dss_cons (ds_penPut .turn (hu_of hr) (de_var 0) (x_op (op_add.or op_cat) prim_addIL (de_penGet .turn (hu_of hr) (de_var 0) rfl) x_int) rfl) (dss_cons (z_if (dt_w (w_and (q_cmp (op_eqA rfl hr.units) prim_eq (de_penGet .digits (hu_of hr) (de_var 0) rfl) x_int) (w_and1 (q_cmp op_lt prim_lt (de_penGet .next (hu_of hr) (de_var 0) rfl) (x_callB (cr_len rfl) (prim_len) T.n_len (by decide +kernel) (a_cons (de_penGet .cells (hu_of hr) (de_var 0) rfl) a_nil)))))) (dss_cons (ds_set (i := 2) sc__law_take.nd (x_callTy call_int1 prim_int T.n_int (by decide +kernel) (a_cons (x_ix rfl (de_penGet .cells (hu_of hr) (de_var 0) rfl) (de_penGet .next (hu_of hr) (de_var 0) rfl)) a_nil))) (dss_cons (ds_penPut .next (hu_of hr) (de_var 0) (x_op (op_add.or op_cat) prim_addIL (de_penGet .next (hu_of hr) (de_var 0) rfl) x_int) rfl) (dss_one (z_if (q_cmp op_ge prim_ge (de_var 2) (x_op op_pow prim_pow x_int x_int)) (dss_cons (ds_penPut .rest (hu_of hr) (de_var 0) (x_op op_sub prim_sub (de_var 2) (x_op op_pow prim_pow x_int x_int)) rfl) (dss_one (ds_penPut .digits (hu_of hr) (de_var 0) x_int rfl))) (dss_one (ds_penPut .seed (hu_of hr) (de_var 0) (x_op op_modN prim_fmd (x_callTy call_int1 prim_int T.n_int (by decide +kernel) (a_cons (x_op (op_add.or op_cat) prim_addIL (x_op (op_add.or op_cat) prim_addIL (x_op op_mulX prim_mul (de_penGet .seed (hu_of hr) (de_var 0) rfl) x_int) (x_op op_modN prim_fmd (de_var 2) x_int)) x_int) a_nil)) x_int) rfl)))))) z_nil) (dss_cons (z_if (q_cmp op_gt prim_gt (de_penGet .digits (hu_of hr) (de_var 0) rfl) x_int) (dss_cons (ds_penPut .digits (hu_of hr) (de_var 0) (x_op op_sub prim_sub (de_penGet .digits (hu_of hr) (de_var 0) rfl) x_int) rfl) (dss_cons (ds_set (i := 3) sc__law_take.nd (x_op op_modN prim_fmd (x_callTy call_int1 prim_int T.n_int (by decide +kernel) (a_cons (de_penGet .rest (hu_of hr) (de_var 0) rfl) a_nil)) (de_var 1))) (dss_cons (ds_penPut .rest (hu_of hr) (de_var 0) (x_op op_fdivX prim_fdv (de_penGet .rest (hu_of hr) (de_var 0) rfl) (de_var 1)) rfl) (dss_one (z_ret (de_var 3)))))) z_nil) (dss_cons (ds_penPut .seed (hu_of hr) (de_var 0) (x_op op_modN prim_fmd (x_callTy call_int1 prim_int T.n_int (by decide +kernel) (a_cons (x_op (op_add.or op_cat) prim_addIL (x_op (op_add.or op_cat) prim_addIL (x_op op_mulX prim_mul (de_penGet .seed (hu_of hr) (de_var 0) rfl) x_int) (x_op op_mulX prim_mul x_int (de_penGet .turn (hu_of hr) (de_var 0) rfl))) x_int) a_nil)) x_int) rfl) (dss_one (z_ret (x_op op_modN prim_fmd (x_op op_fdivX prim_fdv (x_op op_modN prim_fmd (x_callTy call_int1 prim_int T.n_int (by decide +kernel) (a_cons (x_op op_mulX prim_mul (de_penGet .seed (hu_of hr) (de_var 0) rfl) x_int) a_nil)) x_int) x_int) (de_var 1))))))))⟩

def b__law_of : MS := (zRet (kOp itemD (mvar 1) (kCall m__law_take (aCons (mvar 0) (aCons (kCall lenD (aCons (mvar 1) aNil)) aNil)))))
def m__law_of : List D → M D := mdef 2 b__law_of
theorem ok__law_of (T : Txt K mg a) : FnOk P w K mg base (L2.CX P w) 2 a.f__law_of a.d__law_of ["_law_pen_here", "_law_some"] (spM (gt a) 2 m__law_of) :=
  ok_fd T.t__law_of sc__law_of rfl fun cdv A outer s H E hr => by
    have tk0 := takes_of (X := (cxOf (L2.CX P w) P w K mg base ["_law_pen_here", "_law_some"] "_law_of" (defScope s__law_of) a.f__law_of cdv A outer s H E)) (E := E) rfl rfl rfl rfl
    have po0 : PassesOwn (model P w) (cxOf (L2.CX P w) P w K mg base ["_law_pen_here", "_law_some"] "_law_of" (defScope s__law_of) a.f__law_of cdv A outer s H E).A (cxOf (L2.CX P w) P w K mg base ["_law_pen_here", "_law_some"] "_law_of" (defScope s__law_of) a.f__law_of cdv A outer s H E).env (cxOf (L2.CX P w) P w K mg base ["_law_pen_here", "_law_some"] "_law_of" (defScope s__law_of) a.f__law_of cdv A outer s H E).xe := passes_of rfl
    exact ⟨_, (dss_one (z_ret (x_ix rfl (de_var 1) (x_call (ok__law_take T) (hr.mono (by decide)) tk0 T.m__law_take T.t__law_take.kp T.b__law_take (a_cons (de_var 0) (a_cons (x_callB (cr_len rfl) (prim_len) T.n_len (by decide +kernel) (a_cons (de_var 1) a_nil)) a_nil)) (l_cons (l_cons l_nil))))))⟩

def b__law_number_0 : MS := (sasg (kCall m__law_take (aCons (mvar 0) (aCons (kC (.int 8)) aNil))) (gnm 1))
def b__law_number_1 : MS := (zIf (kB (kOp eqA (mvar 1) (kC (.int 0)))) (zRet (kC (.int 0))) zNx)
def b__law_number_2 : MS := (zIf (kB (kOp eqA (mvar 1) (kC (.int 1)))) (zRet (kOp subI (kOp addIL (kCall m__law_of (aCons (mvar 0) (aCons (kCall lstD (aCons (kOp powI (kC (.int 10)) (kC (.int 30))) (aCons (kUn negI (kOp powI (kC (.int 10)) (kC (.int 30)))) aNil))) aNil))) (kCall m__law_take (aCons (mvar 0) (aCons (kC (.int 7)) aNil)))) (kC (.int 3)))) zNx)
def b__law_number_3 : MS := (zIf (kB (kOp eqA (mvar 1) (kC (.int 2)))) (zRet (kOp subI (kCall m__law_take (aCons (mvar 0) (aCons (kOp addIL (kOp mulI (kC (.int 2)) (kOp powI (kC (.int 10)) (kC (.int 9)))) (kC (.int 1))) aNil))) (kOp powI (kC (.int 10)) (kC (.int 9))))) zNx)
def b__law_number_4 : MS := (zRet (kOp subI (kCall m__law_take (aCons (mvar 0) (aCons (kC (.int 41)) aNil))) (kC (.int 20))))
def b__law_number : MS := (sseq b__law_number_0 (sseq b__law_number_1 (sseq b__law_number_2 (sseq b__law_number_3 b__law_number_4))))
def m__law_number : List D → M D := mdef 2 b__law_number
theorem ok__law_number (T : Txt K mg a) : FnOk P w K mg base (L2.CX P w) 3 a.f__law_number a.d__law_number ["_law_pen_here"] (spM (gt a) 1 m__law_number) :=
  ok_fd T.t__law_number sc__law_number rfl fun cdv A outer s H E hr => by
    have tk0 := takes_of (X := (cxOf (L2.CX P w) P w K mg base ["_law_pen_here", "_law_way"] "_law_number" (defScope s__law_number) a.f__law_number cdv A outer s H E)) (E := E) rfl rfl rfl rfl
    have po0 : PassesOwn (model P w) (cxOf (L2.CX P w) P w K mg base ["_law_pen_here", "_law_way"] "_law_number" (defScope s__law_number) a.f__law_number cdv A outer s H E).A (cxOf (L2.CX P w) P w K mg base ["_law_pen_here", "_law_way"] "_law_number" (defScope s__law_number) a.f__law_number cdv A outer s H E).env (cxOf (L2.CX P w) P w K mg base ["_law_pen_here", "_law_way"] "_law_number" (defScope s__law_number) a.f__law_number cdv A outer s H E).xe := passes_of rfl
    exact ⟨_, (dss_cons (ds_set (i := 1) sc__law_number.nd (x_call (ok__law_take T) (hr.mono (by decide)) tk0 T.m__law_take T.t__law_take.kp T.b__law_take (a_cons (de_var 0) (a_cons x_int a_nil)) (l_cons (l_cons l_nil)))) (dss_cons (z_if (q_cmp (op_eqA rfl hr.units) prim_eq (de_var 1) x_int) (dss_one (z_ret x_int)) z_nil) (dss_cons (z_if (q_cmp (op_eqA rfl hr.units) prim_eq (de_var 1) x_int) (dss_one (z_ret (x_op op_sub prim_sub (x_op (op_add.or op_cat) prim_addIL (x_call (ok__law_of T) (hr.mono (by decide)) tk0 T.m__law_of T.t__law_of.kp T.b__law_of (a_cons (de_var 0) (a_cons (x_lst (a_cons (x_op op_pow prim_pow x_int x_int) (a_cons (x_un un_neg prim_neg (x_op op_pow prim_pow x_int x_int)) a_nil))) a_nil)) (l_cons (l_cons l_nil))) (x_call (ok__law_take T) (hr.mono (by decide)) tk0 T.m__law_take T.t__law_take.kp T.b__law_take (a_cons (de_var 0) (a_cons x_int a_nil)) (l_cons (l_cons l_nil)))) x_int))) z_nil) (dss_cons (z_if (q_cmp (op_eqA rfl hr.units) prim_eq (de_var 1) x_int) (dss_one (z_ret (x_op op_sub prim_sub (x_call (ok__law_take T) (hr.mono (by decide)) tk0 T.m__law_take T.t__law_take.kp T.b__law_take (a_cons (de_var 0) (a_cons (x_op (op_add.or op_cat) prim_addIL (x_op op_mulX prim_mul x_int (x_op op_pow prim_pow x_int x_int)) x_int) a_nil)) (l_cons (l_cons l_nil))) (x_op op_pow prim_pow x_int x_int)))) z_nil) (dss_one (z_ret (x_op op_sub prim_sub (x_call (ok__law_take T) (hr.mono (by decide)) tk0 T.m__law_take T.t__law_take.kp T.b__law_take (a_cons (de_var 0) (a_cons x_int a_nil)) (l_cons (l_cons l_nil))) x_int)))))))⟩

def b__law_is_number : MS := (zRet (kAndV (kCall (isiA ans) (aCons (mvar 0) (aCons (kC (.ty "int")) aNil))) (kNotV (kCall (isiA ans) (aCons (mvar 0) (aCons (kC (.ty "bool")) aNil))))))
def m__law_is_number : List D → M D := mdef 1 b__law_is_number
theorem ok__law_is_number (T : Txt K mg a) : FnOk P w K mg base (L2.CX P w) 1 a.f__law_is_number a.d__law_is_number ["_law_thing"] (spM (gt a) 1 m__law_is_number) :=
  ok_fd T.t__law_is_number sc__law_is_number rfl fun cdv A outer s H E hr => by
    have tk0 := takes_of (X := (cxOf (L2.CX P w) P w K mg base ["_law_thing"] "_law_is_number" (defScope s__law_is_number) a.f__law_is_number cdv A outer s H E)) (E := E) rfl rfl rfl rfl
    have po0 : PassesOwn (model P w) (cxOf (L2.CX P w) P w K mg base ["_law_thing"] "_law_is_number" (defScope s__law_is_number) a.f__law_is_number cdv A outer s H E).A (cxOf (L2.CX P w) P w K mg base ["_law_thing"] "_law_is_number" (defScope s__law_is_number) a.f__law_is_number cdv A outer s H E).env (cxOf (L2.CX P w) P w K mg base ["_law_thing"] "_law_is_number" (defScope s__law_is_number) a.f__law_is_number cdv A outer s H E).xe := passes_of rfl
    exact ⟨_, (dss_one (z_ret (x_and (x_callB (cr_isi rfl) (prim_isiA (isa T)) T.n_isinstance (by decide +kernel) (a_cons (de_var 0) (a_cons (x_ty (n := "int") T.n_int (by decide +kernel)) a_nil))) (de_one (x_not (x_callB (cr_isi rfl) (prim_isiA (isa T)) T.n_isinstance (by decide +kernel) (a_cons (de_var 0) (a_cons (x_ty (n := "bool") T.n_bool (by decide +kernel)) a_nil))))))))⟩

def b__law_numbers : MS := (zRet (kCall tupD (aCons (kCall m__law_number (aCons (mvar 0) aNil)) (aCons (kCall m__law_number (aCons (mvar 0) aNil)) (aCons (kCall m__law_number (aCons (mvar 0) aNil)) aNil)))))
def m__law_numbers : List D → M D := mdef 1 b__law_numbers
theorem ok__law_numbers (T : Txt K mg a) : FnOk P w K mg base (L2.CX P w) 4 a.f__law_numbers a.d__law_numbers ["_law_pen_here"] (spM (gt a) 1 m__law_numbers) :=
  ok_fd T.t__law_numbers sc__law_numbers rfl fun cdv A outer s H E hr => by
    have tk0 := takes_of (X := (cxOf (L2.CX P w) P w K mg base ["_law_pen_here"] "_law_numbers" (defScope s__law_numbers) a.f__law_numbers cdv A outer s H E)) (E := E) rfl rfl rfl rfl
    have po0 : PassesOwn (model P w) (cxOf (L2.CX P w) P w K mg base ["_law_pen_here"] "_law_numbers" (defScope s__law_numbers) a.f__law_numbers cdv A outer s H E).A (cxOf (L2.CX P w) P w K mg base ["_law_pen_here"] "_law_numbers" (defScope s__law_numbers) a.f__law_numbers cdv A outer s H E).env (cxOf (L2.CX P w) P w K mg base ["_law_pen_here"] "_law_numbers" (defScope s__law_numbers) a.f__law_numbers cdv A outer s H E).xe := passes_of rfl
    exact ⟨_, (dss_one (z_ret (x_tup (a_cons (x_call (ok__law_number T) (hr.mono (by decide)) tk0 T.m__law_number T.t__law_number.kp T.b__law_number (a_cons (de_var 0) a_nil) (l_cons l_nil)) (a_cons (x_call (ok__law_number T) (hr.mono (by decide)) tk0 T.m__law_number T.t__law_number.kp T.b__law_number (a_cons (de_var 0) a_nil) (l_cons l_nil)) (a_cons (x_call (ok__law_number T) (hr.mono (by decide)) tk0 T.m__law_number T.t__law_number.kp T.b__law_number (a_cons (de_var 0) a_nil) (l_cons l_nil)) a_nil))))))⟩

def b__law_right_0 : MS := (zIf (kNot (kB (kCall (isiA ans) (aCons (mvar 0) (aCons (kC (.cls 7)) aNil))))) (zRet (kC (.bl false))) zNx)
def b__law_right_1 : MS := (sasg (kCall lstD (aCons (kFld cf_across "across" (mvar 0)) (aCons (kFld cf_up "up" (mvar 0)) (aCons (kFld cf_moment "moment" (mvar 0)) aNil)))) (gnm 2))
def b__law_right_2 : MS := (zRet (kAndV (kOp eqA (kCall lenD (aCons (kLc (iL (mvar 2)) (gnm 3) (kNot (kB (kCall m__law_is_number (aCons (mvar 3) aNil)))) (mvar 3) [3]) aNil)) (kC (.int 0))) (kOp eqA (mvar 2) (kCall listD (aCons (mvar 1) aNil)))))
def b__law_right : MS := (sseq b__law_right_0 (sseq b__law_right_1 b__law_right_2))
def m__law_right : List D → M D := mdef 4 b__law_right
theorem ok__law_right (T : Txt K mg a) : FnOk P w K mg base (L2.CX P w) 2 a.f__law_right a.d__law_right ["_law_force", "_law_due"] (spM (gt a) 2 m__law_right) :=
  ok_fd T.t__law_right sc__law_right rfl fun cdv A outer s H E hr => by
    have tk0 := takes_of (X := (cxOf (L2.CX P w) P w K mg base ["_law_force", "_law_due", "_law_told", "_law_one"] "_law_right" (defScope s__law_right) a.f__law_right cdv A outer s H E)) (E := E) rfl rfl rfl rfl
    have po0 : PassesOwn (model P w) (cxOf (L2.CX P w) P w K mg base ["_law_force", "_law_due", "_law_told", "_law_one"] "_law_right" (defScope s__law_right) a.f__law_right cdv A outer s H E).A (cxOf (L2.CX P w) P w K mg base ["_law_force", "_law_due", "_law_told", "_law_one"] "_law_right" (defScope s__law_right) a.f__law_right cdv A outer s H E).env (cxOf (L2.CX P w) P w K mg base ["_law_force", "_law_due", "_law_told", "_law_one"] "_law_right" (defScope s__law_right) a.f__law_right cdv A outer s H E).xe := passes_of rfl
    exact ⟨_, (dss_cons (z_if (q_not (q_val (x_callB (cr_isi rfl) (prim_isiA (isa T)) T.n_isinstance (by decide +kernel) (a_cons (de_var 0) (a_cons (x_cls (n := 7) T.m_Force) a_nil))))) (dss_one (z_ret x_bl)) z_nil) (dss_cons (ds_set (i := 2) sc__law_right.nd (x_lst (a_cons (x_fld (fk_across T) (de_var 0)) (a_cons (x_fld (fk_up T) (de_var 0)) (a_cons (x_fld (fk_moment T) (de_var 0)) a_nil))))) (dss_one (z_ret (x_and (x_cmp (op_eqA rfl hr.units) prim_eq (x_callB (cr_len rfl) (prim_len) T.n_len (by decide +kernel) (a_cons (x_lci [("_law_one", 3)] rfl sc__law_right.nd (i_list rfl (de_var 2)) (blkOk_by (N := ["_law_force", "_law_due", "_law_told", "_law_one"]) (sc := defScope s__law_right) (by decide +kernel)) (fun _ _ _ _ _ => (dg_name (i := 3) (by decide) sc__law_right.nd)) (fun _ _ _ _ _ => dts_one (q_not (q_val (x_call (ok__law_is_number T) (hr.mono (by decide)) takes0 T.m__law_is_number T.t__law_is_number.kp T.b__law_is_number (a_cons (de_var 3) a_nil) (l_cons l_nil))))) (fun _ _ _ _ _ => (de_var 3))) a_nil)) x_int) (de_one (x_cmp (op_eqA rfl hr.units) prim_eq (de_var 2) (x_callTy (cr_list rfl) prim_list T.n_list (by decide +kernel) (a_cons (de_var 1) a_nil)))))))))⟩

def b__law_moment : MS := (zRet (kOp addIL (kOp subI (kOp itemD (mvar 0) (kC (.int 2))) (kOp mulI (kOp itemD (mvar 1) (kC (.int 0))) (kOp itemD (mvar 0) (kC (.int 1))))) (kOp mulI (kOp itemD (mvar 1) (kC (.int 1))) (kOp itemD (mvar 0) (kC (.int 0))))))
def m__law_moment : List D → M D := mdef 2 b__law_moment
theorem ok__law_moment (T : Txt K mg a) : FnOk P w K mg base (L2.CX P w) 1 a.f__law_moment a.d__law_moment ["_law_due", "_law_point"] (spM (gt a) 2 m__law_moment) :=
  ok_fd T.t__law_moment sc__law_moment rfl fun cdv A outer s H E hr => by
    have tk0 := takes_of (X := (cxOf (L2.CX P w) P w K mg base ["_law_due", "_law_point"] "_law_moment" (defScope s__law_moment) a.f__law_moment cdv A outer s H E)) (E := E) rfl rfl rfl rfl
    have po0 : PassesOwn (model P w) (cxOf (L2.CX P w) P w K mg base ["_law_due", "_law_point"] "_law_moment" (defScope s__law_moment) a.f__law_moment cdv A outer s H E).A (cxOf (L2.CX P w) P w K mg base ["_law_due", "_law_point"] "_law_moment" (defScope s__law_moment) a.f__law_moment cdv A outer s H E).env (cxOf (L2.CX P w) P w K mg base ["_law_due", "_law_point"] "_law_moment" (defScope s__law_moment) a.f__law_moment cdv A outer s H E).xe := passes_of rfl
    exact ⟨_, (dss_one (z_ret (x_op (op_add.or op_cat) prim_addIL (x_op op_sub prim_sub (x_ix rfl (de_var 0) x_int) (x_op op_mulX prim_mul (x_ix rfl (de_var 1) x_int) (x_ix rfl (de_var 0) x_int))) (x_op op_mulX prim_mul (x_ix rfl (de_var 1) x_int) (x_ix rfl (de_var 0) x_int)))))⟩

def b_is_number : MS := (zRet (kAndV (kCall (isiA ans) (aCons (mvar 0) (aCons (kC (.ty "int")) aNil))) (kNotV (kCall (isiA ans) (aCons (mvar 0) (aCons (kC (.ty "bool")) aNil))))))
def m_is_number : List D → M D := mdef 1 b_is_number
theorem ok_is_number (T : Txt K mg a) : FnOk P w K mg base (L2.CX P w) 1 a.f_is_number a.d_is_number ["thing"] (spM (gt a) 1 m_is_number) :=
  ok_fd T.t_is_number sc_is_number rfl fun cdv A outer s H E hr => by
    have tk0 := takes_of (X := (cxOf (L2.CX P w) P w K mg base ["thing"] "is_number" (defScope s_is_number) a.f_is_number cdv A outer s H E)) (E := E) rfl rfl rfl rfl
    have po0 : PassesOwn (model P w) (cxOf (L2.CX P w) P w K mg base ["thing"] "is_number" (defScope s_is_number) a.f_is_number cdv A outer s H E).A (cxOf (L2.CX P w) P w K mg base ["thing"] "is_number" (defScope s_is_number) a.f_is_number cdv A outer s H E).env (cxOf (L2.CX P w) P w K mg base ["thing"] "is_number" (defScope s_is_number) a.f_is_number cdv A outer s H E).xe := passes_of rfl
    exact ⟨_, (dss_one (z_ret (x_and (x_callB (cr_isi rfl) (prim_isiA (isa T)) T.n_isinstance (by decide +kernel) (a_cons (de_var 0) (a_cons (x_ty (n := "int") T.n_int (by decide +kernel)) a_nil))) (de_one (x_not (x_callB (cr_isi rfl) (prim_isiA (isa T)) T.n_isinstance (by decide +kernel) (a_cons (de_var 0) (a_cons (x_ty (n := "bool") T.n_bool (by decide +kernel)) a_nil))))))))⟩

def b_Force___init___0 : MS := (zIf (kNot (kB (kCall m_is_number (aCons (mvar 1) aNil)))) (zRaiseN 2 ["what"] (aCons (kC (.str "across")) aNil)) zNx)
def b_Force___init___1 : MS := (zIf (kNot (kB (kCall m_is_number (aCons (mvar 2) aNil)))) (zRaiseN 2 ["what"] (aCons (kC (.str "up")) aNil)) zNx)
def b_Force___init___2 : MS := (zIf (kNot (kB (kCall m_is_number (aCons (mvar 3) aNil)))) (zRaiseN 2 ["what"] (aCons (kC (.str "moment")) aNil)) zNx)
def b_Force___init___3 : MS := (objPut 7 "across" (mvar 0) (mvar 1))
def b_Force___init___4 : MS := (objPut 7 "up" (mvar 0) (mvar 2))
def b_Force___init___5 : MS := (objPut 7 "moment" (mvar 0) (mvar 3))
def b_Force___init__ : MS := (sseq b_Force___init___0 (sseq b_Force___init___1 (sseq b_Force___init___2 (sseq b_Force___init___3 (sseq b_Force___init___4 b_Force___init___5)))))
def m_Force___init__ : List D → M D := mdef 4 b_Force___init__
theorem ok_Force___init__ (T : Txt K mg a) : FnOk P w K mg base (L2.CX P w) 3 a.f_Force___init__ a.d_Force___init__ ["self", "across", "up", "moment"] (spM (gt a) 4 m_Force___init__) :=
  ok_fd T.t_Force___init__ sc_Force___init__ rfl fun cdv A outer s H E hr => by
    have tk0 := takes_of (X := (cxOf (L2.CX P w) P w K mg base ["self", "across", "up", "moment"] "Force.__init__" (defScope s_Force___init__) a.f_Force___init__ cdv A outer s H E)) (E := E) rfl rfl rfl rfl
    have po0 : PassesOwn (model P w) (cxOf (L2.CX P w) P w K mg base ["self", "across", "up", "moment"] "Force.__init__" (defScope s_Force___init__) a.f_Force___init__ cdv A outer s H E).A (cxOf (L2.CX P w) P w K mg base ["self", "across", "up", "moment"] "Force.__init__" (defScope s_Force___init__) a.f_Force___init__ cdv A outer s H E).env (cxOf (L2.CX P w) P w K mg base ["self", "across", "up", "moment"] "Force.__init__" (defScope s_Force___init__) a.f_Force___init__ cdv A outer s H E).xe := passes_of rfl
    exact ⟨_, (dss_cons (z_if (q_not (q_val (x_call (ok_is_number T) (hr.mono (by decide)) tk0 T.m_is_number T.t_is_number.kp T.b_is_number (a_cons (de_var 1) a_nil) (l_cons l_nil)))) (dss_one (z_raise1 (cn := 2) rfl tk0 T.e_BadForce (oke_BadForce T) (hr.mono (by decide)) (a_cons x_str a_nil) (l_cons l_nil))) z_nil) (dss_cons (z_if (q_not (q_val (x_call (ok_is_number T) (hr.mono (by decide)) tk0 T.m_is_number T.t_is_number.kp T.b_is_number (a_cons (de_var 2) a_nil) (l_cons l_nil)))) (dss_one (z_raise1 (cn := 2) rfl tk0 T.e_BadForce (oke_BadForce T) (hr.mono (by decide)) (a_cons x_str a_nil) (l_cons l_nil))) z_nil) (dss_cons (z_if (q_not (q_val (x_call (ok_is_number T) (hr.mono (by decide)) tk0 T.m_is_number T.t_is_number.kp T.b_is_number (a_cons (de_var 3) a_nil) (l_cons l_nil)))) (dss_one (z_raise1 (cn := 2) rfl tk0 T.e_BadForce (oke_BadForce T) (hr.mono (by decide)) (a_cons x_str a_nil) (l_cons l_nil))) z_nil) (dss_cons (ds_objPut 7 (fk_across T 7 rfl).1 (fk_across T 7 rfl).2 (de_var 0) (de_var 1)) (dss_cons (ds_objPut 7 (fk_up T 7 rfl).1 (fk_up T 7 rfl).2 (de_var 0) (de_var 2)) (dss_one (ds_objPut 7 (fk_moment T 7 rfl).1 (fk_moment T 7 rfl).2 (de_var 0) (de_var 3))))))))⟩

def lb__law_refusals_0 : MS := (sseq (sasg (kCall m__law_number (aCons (mvar 0) aNil)) (gnm 8)) (gApp (mvar 1) (kCall m__law_of (aCons (mvar 0) (aCons (kCall lstD (aCons (mvar 8) (aCons (mvar 8) (aCons (mvar 8) (aCons (kC .non) (aCons (kC (.bl true)) (aCons (kC (.bl false)) (aCons (kCall strD (aCons (mvar 8) aNil)) (aCons (kCall tupD (aCons (mvar 8) aNil)) (aCons (kCall lstD (aCons (mvar 8) aNil)) aNil)))))))))) aNil)))))
def gb__law_refusals_1 : MS := (sfor (iR1 (aCons (kC (.int 3)) aNil)) (gnm 2) lb__law_refusals_0)
def tb__law_refusals_2 : MS := (sasg (kMk 7 m_Force___init__ [] (aCons (kOp itemD (mvar 1) (kC (.int 0))) (aCons (kOp itemD (mvar 1) (kC (.int 1))) (aCons (kOp itemD (mvar 1) (kC (.int 2))) aNil)))) (gnm 6))
def hb__law_refusals_3 : MS := (sasg (kCall lstD (aCons (kXf "what" (mvar 7)) aNil)) (gnm 5))
def b__law_refusals_0 : MS := (sGrow 1 (kFew aNil) gb__law_refusals_1)
def b__law_refusals_1 : MS := (sasg (kCall lstD (aCons (kC (.str "across")) (aCons (kC (.str "up")) (aCons (kC (.str "moment")) aNil)))) (gnm 3))
def b__law_refusals_2 : MS := (sasg (kLc (iR1 (aCons (kC (.int 3)) aNil)) (gnm 2) (kNot (kB (kCall m__law_is_number (aCons (kOp itemD (mvar 1) (mvar 2)) aNil)))) (kOp itemD (mvar 3) (mvar 2)) [2]) (gnm 4))
def b__law_refusals_3 : MS := (sasg (kCall lstD aNil) (gnm 5))
def b__law_refusals_4 : MS := (sasg (kC .non) (gnm 6))
def b__law_refusals_5 : MS := (oA 7 mt_BadForce (fun _ => false) tb__law_refusals_2 (fun _ => hb__law_refusals_3))
def b__law_refusals_6 : MS := (zIf (kB (kOp eqA (mvar 4) (kCall lstD aNil))) (zRet (kAndV (kOp eqA (mvar 5) (kCall lstD aNil)) (kCall m__law_right (aCons (mvar 6) (aCons (mvar 1) aNil))))) zNx)
def b__law_refusals_7 : MS := (zRet (kOp eqA (mvar 5) (kSl (mvar 4) kNo (kPart (kC (.int 1))))))
def b__law_refusals : MS := (sseq b__law_refusals_0 (sseq b__law_refusals_1 (sseq b__law_refusals_2 (sseq b__law_refusals_3 (sseq b__law_refusals_4 (sseq b__law_refusals_5 (sseq b__law_refusals_6 b__law_refusals_7)))))))
def m__law_refusals : List D → M D := mdef 9 b__law_refusals
theorem ok__law_refusals (T : Txt K mg a) : FnOk P w K mg base (L2.CX P w) 5 a.f__law_refusals a.d__law_refusals ["_law_pen_here"] (spM (gt a) 1 m__law_refusals) :=
  ok_fd T.t__law_refusals sc__law_refusals rfl fun cdv A outer s H E hr => by
    have tk0 := takes_of (X := (cxOf (L2.CX P w) P w K mg base ["_law_pen_here", "_law_things", "_law_k", "_law_words", "_law_wrong", "_law_told", "_law_made", "e", "_law_number_here"] "_law_refusals" (defScope s__law_refusals) a.f__law_refusals cdv A outer s H E)) (E := E) rfl rfl rfl rfl
    have po0 : PassesOwn (model P w) (cxOf (L2.CX P w) P w K mg base ["_law_pen_here", "_law_things", "_law_k", "_law_words", "_law_wrong", "_law_told", "_law_made", "e", "_law_number_here"] "_law_refusals" (defScope s__law_refusals) a.f__law_refusals cdv A outer s H E).A (cxOf (L2.CX P w) P w K mg base ["_law_pen_here", "_law_things", "_law_k", "_law_words", "_law_wrong", "_law_told", "_law_made", "e", "_law_number_here"] "_law_refusals" (defScope s__law_refusals) a.f__law_refusals cdv A outer s H E).env (cxOf (L2.CX P w) P w K mg base ["_law_pen_here", "_law_things", "_law_k", "_law_words", "_law_wrong", "_law_told", "_law_made", "e", "_law_number_here"] "_law_refusals" (defScope s__law_refusals) a.f__law_refusals cdv A outer s H E).xe := passes_of rfl
    exact ⟨_, (z_grow 1 (ds_set (i := 1) sc__law_refusals.nd (x_lst a_nil)) a_nil (db_one (ds_for (vs := [2]) po0 rfl (i_range1 T.n_range (a_cons x_int a_nil)) (dg_name (i := 2) (by decide) sc__law_refusals.nd) (dss_cons (ds_set (i := 8) sc__law_refusals.nd (x_call (ok__law_number T) (hr.mono (by decide)) tk0 T.m__law_number T.t__law_number.kp T.b__law_number (a_cons (de_var 0) a_nil) (l_cons l_nil))) (dss_one (z_append (de_var 1) (x_call (ok__law_of T) (hr.mono (by decide)) tk0 T.m__law_of T.t__law_of.kp T.b__law_of (a_cons (de_var 0) (a_cons (x_lst (a_cons (de_var 8) (a_cons (de_var 8) (a_cons (de_var 8) (a_cons x_non (a_cons x_bl (a_cons x_bl (a_cons (x_callTy call_str_int prim_str T.n_str (by decide +kernel) (a_cons (de_var 8) a_nil)) (a_cons (x_tup (a_cons (de_var 8) a_nil)) (a_cons (x_lst (a_cons (de_var 8) a_nil)) a_nil)))))))))) a_nil)) (l_cons (l_cons l_nil)))))))) (dss_cons (ds_set (i := 3) sc__law_refusals.nd (x_lst (a_cons x_str (a_cons x_str (a_cons x_str a_nil))))) (dss_cons (z_setLci (i := 4) [("_law_k", 2)] rfl sc__law_refusals.nd rfl rfl (sw_true rfl rfl rfl (by decide +kernel)) (i_range1 T.n_range (a_cons x_int a_nil)) (blkOk_by (N := ["_law_pen_here", "_law_things", "_law_k", "_law_words", "_law_wrong", "_law_told", "_law_made", "e", "_law_number_here"]) (sc := defScope s__law_refusals) (by decide +kernel)) (fun _ _ _ _ _ => (dg_name (i := 2) (by decide) sc__law_refusals.nd)) (fun _ _ _ _ _ => dts_one (q_not (q_val (x_call (ok__law_is_number T) (hr.mono (by decide)) takes0 T.m__law_is_number T.t__law_is_number.kp T.b__law_is_number (a_cons (x_ix rfl (de_var 1) (de_var 2)) a_nil) (l_cons l_nil))))) (fun _ _ _ _ _ => (x_ix rfl (de_var 3) (de_var 2)))) (dss_cons (ds_set (i := 5) sc__law_refusals.nd (x_lst a_nil)) (dss_cons (ds_set (i := 6) sc__law_refusals.nd x_non) (dss_cons (ds_try_as (i := 7) (mt := mt_BadForce) (nf := fun _ => false) (hs1 := fun _ => hb__law_refusals_3) (mb := tb__law_refusals_2) rfl rfl rfl sc__law_refusals.nd rfl rfl ⟨by exact rfl, by decide, .inl T.m_BadForce⟩ tk0 (hmt_BadForce T) (fun W' pn xe tk' po' => ⟨_, (dss_one (ds_set (i := 6) sc__law_refusals.nd (x_mk T.mk_Force (ok_Force___init__ T) (hr.mono (by decide)) tk' .nil (fun _ _ => rfl) (a_cons (x_ix rfl (de_var 1) x_int) (a_cons (x_ix rfl (de_var 1) x_int) (a_cons (x_ix rfl (de_var 1) x_int) a_nil))) (l_cons (l_cons (l_cons l_nil))) (by decide))))⟩) (fun a1 oe1 c1 dd1 pn1 hm _ hz hf => ⟨_, (dss_one (ds_set (i := 5) sc__law_refusals.nd (x_lst (a_cons (x_xf (xf_BadForce T hm) (xn_BadForce_what T _ hm) hz hf (de_var 7)) a_nil))))⟩)).choose_spec (dss_cons (z_if (q_cmp (op_eqA rfl hr.units) prim_eq (de_var 4) (x_lst a_nil)) (dss_one (z_ret (x_and (x_cmp (op_eqA rfl hr.units) prim_eq (de_var 5) (x_lst a_nil)) (de_one (x_call (ok__law_right T) (hr.mono (by decide)) tk0 T.m__law_right T.t__law_right.kp T.b__law_right (a_cons (de_var 6) (a_cons (de_var 1) a_nil)) (l_cons (l_cons l_nil))))))) z_nil) (dss_one (z_ret (x_cmp (op_eqA rfl hr.units) prim_eq (de_var 5) (x_sl rfl (de_var 4) do_none (do_some x_int))))))))))))⟩

def b_Force___sub__ : MS := (zRet (kMk 7 m_Force___init__ [] (aCons (kOp subI (kFld cf_across "across" (mvar 0)) (kFld cf_across "across" (mvar 1))) (aCons (kOp subI (kFld cf_up "up" (mvar 0)) (kFld cf_up "up" (mvar 1))) (aCons (kOp subI (kFld cf_moment "moment" (mvar 0)) (kFld cf_moment "moment" (mvar 1))) aNil)))))
def m_Force___sub__ : List D → M D := mdef 2 b_Force___sub__
theorem ok_Force___sub__ (T : Txt K mg a) : FnOk P w K mg base (L2.CX P w) 5 a.f_Force___sub__ a.d_Force___sub__ ["self", "other"] (spM (gt a) 2 m_Force___sub__) :=
  ok_fd T.t_Force___sub__ sc_Force___sub__ rfl fun cdv A outer s H E hr => by
    have tk0 := takes_of (X := (cxOf (L2.CX P w) P w K mg base ["self", "other"] "Force.__sub__" (defScope s_Force___sub__) a.f_Force___sub__ cdv A outer s H E)) (E := E) rfl rfl rfl rfl
    have po0 : PassesOwn (model P w) (cxOf (L2.CX P w) P w K mg base ["self", "other"] "Force.__sub__" (defScope s_Force___sub__) a.f_Force___sub__ cdv A outer s H E).A (cxOf (L2.CX P w) P w K mg base ["self", "other"] "Force.__sub__" (defScope s_Force___sub__) a.f_Force___sub__ cdv A outer s H E).env (cxOf (L2.CX P w) P w K mg base ["self", "other"] "Force.__sub__" (defScope s_Force___sub__) a.f_Force___sub__ cdv A outer s H E).xe := passes_of rfl
    exact ⟨_, (dss_one (z_ret (x_mk T.mk_Force (ok_Force___init__ T) (hr.mono (by decide)) tk0 .nil (fun _ _ => rfl) (a_cons (x_op op_sub prim_sub (x_fld (fk_across T) (de_var 0)) (x_fld (fk_across T) (de_var 1))) (a_cons (x_op op_sub prim_sub (x_fld (fk_up T) (de_var 0)) (x_fld (fk_up T) (de_var 1))) (a_cons (x_op op_sub prim_sub (x_fld (fk_moment T) (de_var 0)) (x_fld (fk_moment T) (de_var 1))) a_nil))) (l_cons (l_cons (l_cons l_nil))) (by decide))))⟩

def b_Force___add__ : MS := (zRet (kMk 7 m_Force___init__ [] (aCons (kOp addIL (kFld cf_across "across" (mvar 0)) (kFld cf_across "across" (mvar 1))) (aCons (kOp addIL (kFld cf_up "up" (mvar 0)) (kFld cf_up "up" (mvar 1))) (aCons (kOp addIL (kFld cf_moment "moment" (mvar 0)) (kFld cf_moment "moment" (mvar 1))) aNil)))))
def m_Force___add__ : List D → M D := mdef 2 b_Force___add__
theorem ok_Force___add__ (T : Txt K mg a) : FnOk P w K mg base (L2.CX P w) 5 a.f_Force___add__ a.d_Force___add__ ["self", "other"] (spM (gt a) 2 m_Force___add__) :=
  ok_fd T.t_Force___add__ sc_Force___add__ rfl fun cdv A outer s H E hr => by
    have tk0 := takes_of (X := (cxOf (L2.CX P w) P w K mg base ["self", "other"] "Force.__add__" (defScope s_Force___add__) a.f_Force___add__ cdv A outer s H E)) (E := E) rfl rfl rfl rfl
    have po0 : PassesOwn (model P w) (cxOf (L2.CX P w) P w K mg base ["self", "other"] "Force.__add__" (defScope s_Force___add__) a.f_Force___add__ cdv A outer s H E).A (cxOf (L2.CX P w) P w K mg base ["self", "other"] "Force.__add__" (defScope s_Force___add__) a.f_Force___add__ cdv A outer s H E).env (cxOf (L2.CX P w) P w K mg base ["self", "other"] "Force.__add__" (defScope s_Force___add__) a.f_Force___add__ cdv A outer s H E).xe := passes_of rfl
    exact ⟨_, (dss_one (z_ret (x_mk T.mk_Force (ok_Force___init__ T) (hr.mono (by decide)) tk0 .nil (fun _ _ => rfl) (a_cons (x_op (op_add.or op_cat) prim_addIL (x_fld (fk_across T) (de_var 0)) (x_fld (fk_across T) (de_var 1))) (a_cons (x_op (op_add.or op_cat) prim_addIL (x_fld (fk_up T) (de_var 0)) (x_fld (fk_up T) (de_var 1))) (a_cons (x_op (op_add.or op_cat) prim_addIL (x_fld (fk_moment T) (de_var 0)) (x_fld (fk_moment T) (de_var 1))) a_nil))) (l_cons (l_cons (l_cons l_nil))) (by decide))))⟩

def b_Force___mul__ : MS := (zRet (kMk 7 m_Force___init__ [] (aCons (kOp mulI (kFld cf_across "across" (mvar 0)) (mvar 1)) (aCons (kOp mulI (kFld cf_up "up" (mvar 0)) (mvar 1)) (aCons (kOp mulI (kFld cf_moment "moment" (mvar 0)) (mvar 1)) aNil)))))
def m_Force___mul__ : List D → M D := mdef 2 b_Force___mul__
theorem ok_Force___mul__ (T : Txt K mg a) : FnOk P w K mg base (L2.CX P w) 5 a.f_Force___mul__ a.d_Force___mul__ ["self", "other"] (spM (gt a) 2 m_Force___mul__) :=
  ok_fd T.t_Force___mul__ sc_Force___mul__ rfl fun cdv A outer s H E hr => by
    have tk0 := takes_of (X := (cxOf (L2.CX P w) P w K mg base ["self", "other"] "Force.__mul__" (defScope s_Force___mul__) a.f_Force___mul__ cdv A outer s H E)) (E := E) rfl rfl rfl rfl
    have po0 : PassesOwn (model P w) (cxOf (L2.CX P w) P w K mg base ["self", "other"] "Force.__mul__" (defScope s_Force___mul__) a.f_Force___mul__ cdv A outer s H E).A (cxOf (L2.CX P w) P w K mg base ["self", "other"] "Force.__mul__" (defScope s_Force___mul__) a.f_Force___mul__ cdv A outer s H E).env (cxOf (L2.CX P w) P w K mg base ["self", "other"] "Force.__mul__" (defScope s_Force___mul__) a.f_Force___mul__ cdv A outer s H E).xe := passes_of rfl
    exact ⟨_, (dss_one (z_ret (x_mk T.mk_Force (ok_Force___init__ T) (hr.mono (by decide)) tk0 .nil (fun _ _ => rfl) (a_cons (x_op op_mulX prim_mul (x_fld (fk_across T) (de_var 0)) (de_var 1)) (a_cons (x_op op_mulX prim_mul (x_fld (fk_up T) (de_var 0)) (de_var 1)) (a_cons (x_op op_mulX prim_mul (x_fld (fk_moment T) (de_var 0)) (de_var 1)) a_nil))) (l_cons (l_cons (l_cons l_nil))) (by decide))))⟩

def b_Force___neg__ : MS := (zRet (kMk 7 m_Force___init__ [] (aCons (kUn negI (kFld cf_across "across" (mvar 0))) (aCons (kUn negI (kFld cf_up "up" (mvar 0))) (aCons (kUn negI (kFld cf_moment "moment" (mvar 0))) aNil)))))
def m_Force___neg__ : List D → M D := mdef 1 b_Force___neg__
theorem ok_Force___neg__ (T : Txt K mg a) : FnOk P w K mg base (L2.CX P w) 5 a.f_Force___neg__ a.d_Force___neg__ ["self"] (spM (gt a) 1 m_Force___neg__) :=
  ok_fd T.t_Force___neg__ sc_Force___neg__ rfl fun cdv A outer s H E hr => by
    have tk0 := takes_of (X := (cxOf (L2.CX P w) P w K mg base ["self"] "Force.__neg__" (defScope s_Force___neg__) a.f_Force___neg__ cdv A outer s H E)) (E := E) rfl rfl rfl rfl
    have po0 : PassesOwn (model P w) (cxOf (L2.CX P w) P w K mg base ["self"] "Force.__neg__" (defScope s_Force___neg__) a.f_Force___neg__ cdv A outer s H E).A (cxOf (L2.CX P w) P w K mg base ["self"] "Force.__neg__" (defScope s_Force___neg__) a.f_Force___neg__ cdv A outer s H E).env (cxOf (L2.CX P w) P w K mg base ["self"] "Force.__neg__" (defScope s_Force___neg__) a.f_Force___neg__ cdv A outer s H E).xe := passes_of rfl
    exact ⟨_, (dss_one (z_ret (x_mk T.mk_Force (ok_Force___init__ T) (hr.mono (by decide)) tk0 .nil (fun _ _ => rfl) (a_cons (x_un un_neg prim_neg (x_fld (fk_across T) (de_var 0))) (a_cons (x_un un_neg prim_neg (x_fld (fk_up T) (de_var 0))) (a_cons (x_un un_neg prim_neg (x_fld (fk_moment T) (de_var 0))) a_nil))) (l_cons (l_cons (l_cons l_nil))) (by decide))))⟩

def b_Force_none : MS := (zRet (kMkV 7 m_Force___init__ [] (mvar 0) (aCons (kC (.int 0)) (aCons (kC (.int 0)) (aCons (kC (.int 0)) aNil)))))
def m_Force_none : List D → M D := mdef 1 b_Force_none
theorem ok_Force_none (T : Txt K mg a) : FnOk P w K mg base (L2.CX P w) 5 a.f_Force_none a.d_Force_none ["cls"] (spM (gt a) 1 m_Force_none) :=
  ok_fd T.t_Force_none sc_Force_none rfl fun cdv A outer s H E hr => by
    have tk0 := takes_of (X := (cxOf (L2.CX P w) P w K mg base ["cls"] "Force.none" (defScope s_Force_none) a.f_Force_none cdv A outer s H E)) (E := E) rfl rfl rfl rfl
    have po0 : PassesOwn (model P w) (cxOf (L2.CX P w) P w K mg base ["cls"] "Force.none" (defScope s_Force_none) a.f_Force_none cdv A outer s H E).A (cxOf (L2.CX P w) P w K mg base ["cls"] "Force.none" (defScope s_Force_none) a.f_Force_none cdv A outer s H E).env (cxOf (L2.CX P w) P w K mg base ["cls"] "Force.none" (defScope s_Force_none) a.f_Force_none cdv A outer s H E).xe := passes_of rfl
    exact ⟨_, (dss_one (z_ret (x_makeV T.mk_Force (ok_Force___init__ T) (hr.mono (by decide)) tk0 .nil (fun _ _ => rfl) (de_var 0) (a_cons x_int (a_cons x_int (a_cons x_int a_nil))) (l_cons (l_cons (l_cons l_nil))) (by decide))))⟩

def b_Force_is_none : MS := (zRet (kAndV (kOp eqA (kFld cf_across "across" (mvar 0)) (kC (.int 0))) (kAndV (kOp eqA (kFld cf_up "up" (mvar 0)) (kC (.int 0))) (kOp eqA (kFld cf_moment "moment" (mvar 0)) (kC (.int 0))))))
def m_Force_is_none : List D → M D := mdef 1 b_Force_is_none
theorem ok_Force_is_none (T : Txt K mg a) : FnOk P w K mg base (L2.CX P w) 1 a.f_Force_is_none a.d_Force_is_none ["self"] (spM (gt a) 1 m_Force_is_none) :=
  ok_fd T.t_Force_is_none sc_Force_is_none rfl fun cdv A outer s H E hr => by
    have tk0 := takes_of (X := (cxOf (L2.CX P w) P w K mg base ["self"] "Force.is_none" (defScope s_Force_is_none) a.f_Force_is_none cdv A outer s H E)) (E := E) rfl rfl rfl rfl
    have po0 : PassesOwn (model P w) (cxOf (L2.CX P w) P w K mg base ["self"] "Force.is_none" (defScope s_Force_is_none) a.f_Force_is_none cdv A outer s H E).A (cxOf (L2.CX P w) P w K mg base ["self"] "Force.is_none" (defScope s_Force_is_none) a.f_Force_is_none cdv A outer s H E).env (cxOf (L2.CX P w) P w K mg base ["self"] "Force.is_none" (defScope s_Force_is_none) a.f_Force_is_none cdv A outer s H E).xe := passes_of rfl
    exact ⟨_, (dss_one (z_ret (x_and (x_cmp (op_eqA rfl hr.units) prim_eq (x_fld (fk_across T) (de_var 0)) x_int) (x_and (x_cmp (op_eqA rfl hr.units) prim_eq (x_fld (fk_up T) (de_var 0)) x_int) (de_one (x_cmp (op_eqA rfl hr.units) prim_eq (x_fld (fk_moment T) (de_var 0)) x_int))))))⟩

def lb__law_signs_0 : MS := (zIf (kOr (kNot (kB (kCall m__law_right (aCons (mvar 6) (aCons (mvar 7) aNil))))) (kB (kOp neA (kProp 7 "is_none" m_Force_is_none (mvar 6)) (kOp eqA (kCall listD (aCons (mvar 7) aNil)) (kCall lstD (aCons (kC (.int 0)) (aCons (kC (.int 0)) (aCons (kC (.int 0)) aNil)))))))) (zRet (kC (.bl false))) zNx)
def b__law_signs_0 : MS := (spar 4 5 (aCons (kMk 7 m_Force___init__ [] (aCons (kOp itemD (mvar 0) (kC (.int 0))) (aCons (kOp itemD (mvar 0) (kC (.int 1))) (aCons (kOp itemD (mvar 0) (kC (.int 2))) aNil)))) (aCons (kMk 7 m_Force___init__ [] (aCons (kOp itemD (mvar 1) (kC (.int 0))) (aCons (kOp itemD (mvar 1) (kC (.int 1))) (aCons (kOp itemD (mvar 1) (kC (.int 2))) aNil)))) aNil)))
def b__law_signs_1 : MS := (sasg (kCall lstD (aCons (kCall tupD (aCons (kOp (ownX 7 m_Force___add__) (mvar 4) (mvar 5)) (aCons (kLc (iR1 (aCons (kC (.int 3)) aNil)) (gnm 8) (fun _ => mret true) (kOp addIL (kOp itemD (mvar 0) (mvar 8)) (kOp itemD (mvar 1) (mvar 8))) [8]) aNil))) (aCons (kCall tupD (aCons (kOp (ownX 7 m_Force___sub__) (mvar 4) (mvar 5)) (aCons (kLc (iR1 (aCons (kC (.int 3)) aNil)) (gnm 8) (fun _ => mret true) (kOp subI (kOp itemD (mvar 0) (mvar 8)) (kOp itemD (mvar 1) (mvar 8))) [8]) aNil))) aNil))) (gnm 3))
def b__law_signs_2 : MS := (sasg (kOp addIL (mvar 3) (kCall lstD (aCons (kCall tupD (aCons (kUn (ownN 7 m_Force___neg__) (mvar 4)) (aCons (kLc (iT (mvar 0)) (gnm 9) (fun _ => mret true) (kUn negI (mvar 9)) [9]) aNil))) (aCons (kCall tupD (aCons (kOp (ownI 7 m_Force___mul__) (mvar 5) (mvar 2)) (aCons (kLc (iT (mvar 1)) (gnm 9) (fun _ => mret true) (kOp mulI (mvar 9) (mvar 2)) [9]) aNil))) aNil)))) (gnm 3))
def b__law_signs_3 : MS := (sasg (kOp addIL (mvar 3) (kCall lstD (aCons (kCall tupD (aCons (kOp (ownI 7 m_Force___mul__) (mvar 4) (kC (.int 0))) (aCons (kCall lstD (aCons (kC (.int 0)) (aCons (kC (.int 0)) (aCons (kC (.int 0)) aNil)))) aNil))) (aCons (kCall tupD (aCons (kOp (ownX 7 m_Force___add__) (mvar 4) (kCmS 7 m_Force_none [] (kC (.cls 7)) aNil)) (aCons (mvar 0) aNil))) (aCons (kCall tupD (aCons (kOp (ownX 7 m_Force___sub__) (mvar 5) (mvar 5)) (aCons (kCall lstD (aCons (kC (.int 0)) (aCons (kC (.int 0)) (aCons (kC (.int 0)) aNil)))) aNil))) aNil))))) (gnm 3))
def b__law_signs_4 : MS := (sfor (iL (mvar 3)) (gtm 2 (gcn (gnm 6) (gcn (gnm 7) gnl))) lb__law_signs_0)
def b__law_signs_5 : MS := (zRet (kAndV (kCall m__law_right (aCons (mvar 4) (aCons (mvar 0) aNil))) (kAndV (kCall m__law_right (aCons (mvar 5) (aCons (mvar 1) aNil))) (kOp eqA (kProp 7 "is_none" m_Force_is_none (mvar 4)) (kOp eqA (kCall listD (aCons (mvar 0) aNil)) (kCall lstD (aCons (kC (.int 0)) (aCons (kC (.int 0)) (aCons (kC (.int 0)) aNil)))))))))
def b__law_signs : MS := (sseq b__law_signs_0 (sseq b__law_signs_1 (sseq b__law_signs_2 (sseq b__law_signs_3 (sseq b__law_signs_4 b__law_signs_5)))))
def m__law_signs : List D → M D := mdef 10 b__law_signs
theorem ok__law_signs (T : Txt K mg a) : FnOk P w K mg base (L2.CX P w) 6 a.f__law_signs a.d__law_signs ["_law_one", "_law_other", "_law_times"] (spM (gt a) 3 m__law_signs) :=
  ok_fd T.t__law_signs sc__law_signs rfl fun cdv A outer s H E hr => by
    have tk0 := takes_of (X := (cxOf (L2.CX P w) P w K mg base ["_law_one", "_law_other", "_law_times", "_law_due", "_law_f", "_law_g", "_law_told", "_law_numbers_here", "_law_k", "_law_number_here"] "_law_signs" (defScope s__law_signs) a.f__law_signs cdv A outer s H E)) (E := E) rfl rfl rfl rfl
    have po0 : PassesOwn (model P w) (cxOf (L2.CX P w) P w K mg base ["_law_one", "_law_other", "_law_times", "_law_due", "_law_f", "_law_g", "_law_told", "_law_numbers_here", "_law_k", "_law_number_here"] "_law_signs" (defScope s__law_signs) a.f__law_signs cdv A outer s H E).A (cxOf (L2.CX P w) P w K mg base ["_law_one", "_law_other", "_law_times", "_law_due", "_law_f", "_law_g", "_law_told", "_law_numbers_here", "_law_k", "_law_number_here"] "_law_signs" (defScope s__law_signs) a.f__law_signs cdv A outer s H E).env (cxOf (L2.CX P w) P w K mg base ["_law_one", "_law_other", "_law_times", "_law_due", "_law_f", "_law_g", "_law_told", "_law_numbers_here", "_law_k", "_law_number_here"] "_law_signs" (defScope s__law_signs) a.f__law_signs cdv A outer s H E).xe := passes_of rfl
    exact ⟨_, (dss_cons (ds_par (i := 4) (j := 5) rfl sc__law_signs.nd rfl rfl (by decide) rfl rfl (a_cons (x_mk T.mk_Force (ok_Force___init__ T) (hr.mono (by decide)) tk0 .nil (fun _ _ => rfl) (a_cons (x_ix rfl (de_var 0) x_int) (a_cons (x_ix rfl (de_var 0) x_int) (a_cons (x_ix rfl (de_var 0) x_int) a_nil))) (l_cons (l_cons (l_cons l_nil))) (by decide)) (a_cons (x_mk T.mk_Force (ok_Force___init__ T) (hr.mono (by decide)) tk0 .nil (fun _ _ => rfl) (a_cons (x_ix rfl (de_var 1) x_int) (a_cons (x_ix rfl (de_var 1) x_int) (a_cons (x_ix rfl (de_var 1) x_int) a_nil))) (l_cons (l_cons (l_cons l_nil))) (by decide)) a_nil))) (dss_cons (ds_set (i := 3) sc__law_signs.nd (x_lst (a_cons (x_tup (a_cons (x_own T.op_Force___add__ (ok_Force___add__ T) (hr.mono (by decide)) tk0 (de_var 4) (de_var 5)) (a_cons (x_lc [("_law_k", 8)] rfl sc__law_signs.nd (i_range1 T.n_range (a_cons x_int a_nil)) (blkOk_by (N := ["_law_one", "_law_other", "_law_times", "_law_due", "_law_f", "_law_g", "_law_told", "_law_numbers_here", "_law_k", "_law_number_here"]) (sc := defScope s__law_signs) (by decide +kernel)) (fun _ _ _ _ _ => (dg_name (i := 8) (by decide) sc__law_signs.nd)) (fun _ _ _ _ _ => pts_nil) run_yes (fun _ _ _ _ _ => (x_op (op_add.or op_cat) prim_addIL (x_ix rfl (de_var 0) (de_var 8)) (x_ix rfl (de_var 1) (de_var 8))))) a_nil))) (a_cons (x_tup (a_cons (x_own T.op_Force___sub__ (ok_Force___sub__ T) (hr.mono (by decide)) tk0 (de_var 4) (de_var 5)) (a_cons (x_lc [("_law_k", 8)] rfl sc__law_signs.nd (i_range1 T.n_range (a_cons x_int a_nil)) (blkOk_by (N := ["_law_one", "_law_other", "_law_times", "_law_due", "_law_f", "_law_g", "_law_told", "_law_numbers_here", "_law_k", "_law_number_here"]) (sc := defScope s__law_signs) (by decide +kernel)) (fun _ _ _ _ _ => (dg_name (i := 8) (by decide) sc__law_signs.nd)) (fun _ _ _ _ _ => pts_nil) run_yes (fun _ _ _ _ _ => (x_op op_sub prim_sub (x_ix rfl (de_var 0) (de_var 8)) (x_ix rfl (de_var 1) (de_var 8))))) a_nil))) a_nil)))) (dss_cons (ds_set (i := 3) sc__law_signs.nd (x_op (op_add.or op_cat) prim_addIL (de_var 3) (x_lst (a_cons (x_tup (a_cons (x_un (un_own T.ng_Force___neg__ (ok_Force___neg__ T) (hr.mono (by decide))) prim_ownN (de_var 4)) (a_cons (x_lc [("_law_number_here", 9)] rfl sc__law_signs.nd (i_tup rfl (de_var 0)) (blkOk_by (N := ["_law_one", "_law_other", "_law_times", "_law_due", "_law_f", "_law_g", "_law_told", "_law_numbers_here", "_law_k", "_law_number_here"]) (sc := defScope s__law_signs) (by decide +kernel)) (fun _ _ _ _ _ => (dg_name (i := 9) (by decide) sc__law_signs.nd)) (fun _ _ _ _ _ => pts_nil) run_yes (fun _ _ _ _ _ => (x_un un_neg prim_neg (de_var 9)))) a_nil))) (a_cons (x_tup (a_cons (x_op (op_ownI T.op_Force___mul__ T.oi_Force___mul__ (ok_Force___mul__ T) (hr.mono (by decide))) prim_ownI (de_var 5) (de_var 2)) (a_cons (x_lc [("_law_number_here", 9)] rfl sc__law_signs.nd (i_tup rfl (de_var 1)) (blkOk_by (N := ["_law_one", "_law_other", "_law_times", "_law_due", "_law_f", "_law_g", "_law_told", "_law_numbers_here", "_law_k", "_law_number_here"]) (sc := defScope s__law_signs) (by decide +kernel)) (fun _ _ _ _ _ => (dg_name (i := 9) (by decide) sc__law_signs.nd)) (fun _ _ _ _ _ => pts_nil) run_yes (fun _ _ _ _ _ => (x_op op_mulX prim_mul (de_var 9) (de_var 2)))) a_nil))) a_nil))))) (dss_cons (ds_set (i := 3) sc__law_signs.nd (x_op (op_add.or op_cat) prim_addIL (de_var 3) (x_lst (a_cons (x_tup (a_cons (x_op (op_ownI T.op_Force___mul__ T.oi_Force___mul__ (ok_Force___mul__ T) (hr.mono (by decide))) prim_ownI (de_var 4) x_int) (a_cons (x_lst (a_cons x_int (a_cons x_int (a_cons x_int a_nil)))) a_nil))) (a_cons (x_tup (a_cons (x_own T.op_Force___add__ (ok_Force___add__ T) (hr.mono (by decide)) tk0 (de_var 4) (x_cmtS0 T.cm_Force_none (ok_Force_none T) (hr.mono (by decide)) tk0 .nil (fun _ _ => rfl) (x_cls (n := 7) T.m_Force) (by decide))) (a_cons (de_var 0) a_nil))) (a_cons (x_tup (a_cons (x_own T.op_Force___sub__ (ok_Force___sub__ T) (hr.mono (by decide)) tk0 (de_var 5) (de_var 5)) (a_cons (x_lst (a_cons x_int (a_cons x_int (a_cons x_int a_nil)))) a_nil))) a_nil)))))) (dss_cons (ds_for (vs := [6, 7]) po0 rfl (i_list rfl (de_var 3)) (g_tup rfl rfl (g_cons (dg_name (i := 6) (by decide) sc__law_signs.nd) (g_cons (dg_name (i := 7) (by decide) sc__law_signs.nd) g_nil))) (dss_one (z_if (dt_w (w_or (q_not (q_val (x_call (ok__law_right T) (hr.mono (by decide)) tk0 T.m__law_right T.t__law_right.kp T.b__law_right (a_cons (de_var 6) (a_cons (de_var 7) a_nil)) (l_cons (l_cons l_nil))))) (w_or1 (q_cmp (op_neA rfl hr.units) prim_ne (x_prop T.pr_Force_is_none (ok_Force_is_none T) (hr.mono (by decide)) (de_var 6)) (x_cmp (op_eqA rfl hr.units) prim_eq (x_callTy (cr_list rfl) prim_list T.n_list (by decide +kernel) (a_cons (de_var 7) a_nil)) (x_lst (a_cons x_int (a_cons x_int (a_cons x_int a_nil))))))))) (dss_one (z_ret x_bl)) z_nil))) (dss_one (z_ret (x_and (x_call (ok__law_right T) (hr.mono (by decide)) tk0 T.m__law_right T.t__law_right.kp T.b__law_right (a_cons (de_var 4) (a_cons (de_var 0) a_nil)) (l_cons (l_cons l_nil))) (x_and (x_call (ok__law_right T) (hr.mono (by decide)) tk0 T.m__law_right T.t__law_right.kp T.b__law_right (a_cons (de_var 5) (a_cons (de_var 1) a_nil)) (l_cons (l_cons l_nil))) (de_one (x_cmp (op_eqA rfl hr.units) prim_eq (x_prop T.pr_Force_is_none (ok_Force_is_none T) (hr.mono (by decide)) (de_var 4)) (x_cmp (op_eqA rfl hr.units) prim_eq (x_callTy (cr_list rfl) prim_list T.n_list (by decide +kernel) (a_cons (de_var 0) a_nil)) (x_lst (a_cons x_int (a_cons x_int (a_cons x_int a_nil))))))))))))))))⟩

def b_Force___eq__ : MS := (zRet (kAndV (kCall (isiA ans) (aCons (mvar 1) (aCons (kC (.cls 7)) aNil))) (kAndV (kOp eqA (kFld cf_across "across" (mvar 0)) (kFld cf_across "across" (mvar 1))) (kAndV (kOp eqA (kFld cf_up "up" (mvar 0)) (kFld cf_up "up" (mvar 1))) (kOp eqA (kFld cf_moment "moment" (mvar 0)) (kFld cf_moment "moment" (mvar 1)))))))
def m_Force___eq__ : List D → M D := mdef 2 b_Force___eq__
theorem ok_Force___eq__ (T : Txt K mg a) : FnOk P w K mg base (L2.CX P w) 1 a.f_Force___eq__ a.d_Force___eq__ ["self", "other"] (spM (gt a) 2 m_Force___eq__) :=
  ok_fd T.t_Force___eq__ sc_Force___eq__ rfl fun cdv A outer s H E hr => by
    have tk0 := takes_of (X := (cxOf (L2.CX P w) P w K mg base ["self", "other"] "Force.__eq__" (defScope s_Force___eq__) a.f_Force___eq__ cdv A outer s H E)) (E := E) rfl rfl rfl rfl
    have po0 : PassesOwn (model P w) (cxOf (L2.CX P w) P w K mg base ["self", "other"] "Force.__eq__" (defScope s_Force___eq__) a.f_Force___eq__ cdv A outer s H E).A (cxOf (L2.CX P w) P w K mg base ["self", "other"] "Force.__eq__" (defScope s_Force___eq__) a.f_Force___eq__ cdv A outer s H E).env (cxOf (L2.CX P w) P w K mg base ["self", "other"] "Force.__eq__" (defScope s_Force___eq__) a.f_Force___eq__ cdv A outer s H E).xe := passes_of rfl
    exact ⟨_, (dss_one (z_ret (x_and (x_callB (cr_isi rfl) (prim_isiA (isa T)) T.n_isinstance (by decide +kernel) (a_cons (de_var 1) (a_cons (x_cls (n := 7) T.m_Force) a_nil))) (x_and (x_cmp (op_eqA rfl hr.units) prim_eq (x_fld (fk_across T) (de_var 0)) (x_fld (fk_across T) (de_var 1))) (x_and (x_cmp (op_eqA rfl hr.units) prim_eq (x_fld (fk_up T) (de_var 0)) (x_fld (fk_up T) (de_var 1))) (de_one (x_cmp (op_eqA rfl hr.units) prim_eq (x_fld (fk_moment T) (de_var 0)) (x_fld (fk_moment T) (de_var 1)))))))))⟩

def b_is_row : MS := (zRet (kAndV (kCall (isiT ans) (aCons (mvar 0) (aCons (kCall tupD (aCons (kC (.ty "list")) (aCons (kC (.ty "tuple")) aNil))) aNil))) (kCh leI leI (mvar 1) (kCall lenD (aCons (mvar 0) aNil)) (mvar 2))))
def m_is_row : List D → M D := mdef 3 b_is_row
theorem ok_is_row (T : Txt K mg a) : FnOk P w K mg base (L2.CX P w) 1 a.f_is_row a.d_is_row ["thing", "least", "most"] (spM (gt a) 3 m_is_row) :=
  ok_fd T.t_is_row sc_is_row rfl fun cdv A outer s H E hr => by
    have tk0 := takes_of (X := (cxOf (L2.CX P w) P w K mg base ["thing", "least", "most"] "is_row" (defScope s_is_row) a.f_is_row cdv A outer s H E)) (E := E) rfl rfl rfl rfl
    have po0 : PassesOwn (model P w) (cxOf (L2.CX P w) P w K mg base ["thing", "least", "most"] "is_row" (defScope s_is_row) a.f_is_row cdv A outer s H E).A (cxOf (L2.CX P w) P w K mg base ["thing", "least", "most"] "is_row" (defScope s_is_row) a.f_is_row cdv A outer s H E).env (cxOf (L2.CX P w) P w K mg base ["thing", "least", "most"] "is_row" (defScope s_is_row) a.f_is_row cdv A outer s H E).xe := passes_of rfl
    exact ⟨_, (dss_one (z_ret (x_and (x_callB (cr_isiT rfl) (prim_isiT (isa T)) T.n_isinstance (by decide +kernel) (a_cons (de_var 0) (a_cons (x_tup (a_cons (x_ty (n := "list") T.n_list (by decide +kernel)) (a_cons (x_ty (n := "tuple") T.n_tuple (by decide +kernel)) a_nil))) a_nil))) (de_one (x_chain op_le op_le prim_le prim_le (de_var 1) (x_callB (cr_len rfl) (prim_len) T.n_len (by decide +kernel) (a_cons (de_var 0) a_nil)) (de_var 2))))))⟩

def b_Load___init___0 : MS := (zIf (kNot (kB (kCall m_is_row (aCons (mvar 1) (aCons (kC (.int 1)) (aCons (kC (.int 8)) aNil)))))) (zRaiseN 3 ["what"] (aCons (kC (.str "count")) aNil)) zNx)
def b_Load___init___1 : MS := (zIf (kNot (kB (kCall allD (aCons (kLc (iL (mvar 1)) (gnm 2) (fun _ => mret true) (kCall (isiA ans) (aCons (mvar 2) (aCons (kC (.cls 7)) aNil))) [2]) aNil)))) (zRaiseN 3 ["what"] (aCons (kC (.str "force")) aNil)) zNx)
def b_Load___init___2 : MS := (objPut 8 "forces" (mvar 0) (kCall tupleD (aCons (mvar 1) aNil)))
def b_Load___init__ : MS := (sseq b_Load___init___0 (sseq b_Load___init___1 b_Load___init___2))
def m_Load___init__ : List D → M D := mdef 3 b_Load___init__
theorem ok_Load___init__ (T : Txt K mg a) : FnOk P w K mg base (L2.CX P w) 3 a.f_Load___init__ a.d_Load___init__ ["self", "forces"] (spM (gt a) 2 m_Load___init__) :=
  ok_fd T.t_Load___init__ sc_Load___init__ rfl fun cdv A outer s H E hr => by
    have tk0 := takes_of (X := (cxOf (L2.CX P w) P w K mg base ["self", "forces", "force"] "Load.__init__" (defScope s_Load___init__) a.f_Load___init__ cdv A outer s H E)) (E := E) rfl rfl rfl rfl
    have po0 : PassesOwn (model P w) (cxOf (L2.CX P w) P w K mg base ["self", "forces", "force"] "Load.__init__" (defScope s_Load___init__) a.f_Load___init__ cdv A outer s H E).A (cxOf (L2.CX P w) P w K mg base ["self", "forces", "force"] "Load.__init__" (defScope s_Load___init__) a.f_Load___init__ cdv A outer s H E).env (cxOf (L2.CX P w) P w K mg base ["self", "forces", "force"] "Load.__init__" (defScope s_Load___init__) a.f_Load___init__ cdv A outer s H E).xe := passes_of rfl
    exact ⟨_, (dss_cons (z_if (q_not (q_val (x_call (ok_is_row T) (hr.mono (by decide)) tk0 T.m_is_row T.t_is_row.kp T.b_is_row (a_cons (de_var 1) (a_cons x_int (a_cons (x_gint T.gi_MOST_STONES) a_nil))) (l_cons (l_cons (l_cons l_nil)))))) (dss_one (z_raise1 (cn := 3) rfl tk0 T.e_BadLoad (oke_BadLoad T) (hr.mono (by decide)) (a_cons x_str a_nil) (l_cons l_nil))) z_nil) (dss_cons (z_if (q_not (q_val (x_callB (cr_all' rfl rfl) prim_all T.n_all (by decide +kernel) (a_cons (x_lc [("force", 2)] rfl sc_Load___init__.nd (i_list rfl (de_var 1)) (blkOk_by (N := ["self", "forces", "force"]) (sc := defScope s_Load___init__) (by decide +kernel)) (fun _ _ _ _ _ => (dg_name (i := 2) (by decide) sc_Load___init__.nd)) (fun _ _ _ _ _ => pts_nil) run_yes (fun _ _ _ _ _ => (x_callB (cr_isi rfl) (prim_isiA (isa T)) T.n_isinstance (by decide +kernel) (a_cons (de_var 2) (a_cons (x_cls (n := 7) T.m_Force) a_nil))))) a_nil)))) (dss_one (z_raise1 (cn := 3) rfl tk0 T.e_BadLoad (oke_BadLoad T) (hr.mono (by decide)) (a_cons x_str a_nil) (l_cons l_nil))) z_nil) (dss_one (ds_objPut 8 (fk_forces T 8 rfl).1 (fk_forces T 8 rfl).2 (de_var 0) (x_callTy (cr_tuple rfl) prim_tuple T.n_tuple (by decide +kernel) (a_cons (de_var 1) a_nil))))))⟩

def b_Thrust___init___0 : MS := (zIf (kOr (kNot (kB (kCall (isiA ans) (aCons (mvar 1) (aCons (kC (.cls 7)) aNil))))) (kOr (kNot (kB (kCall m_is_number (aCons (mvar 2) aNil)))) (kB (kOp ltI (mvar 2) (kC (.int 1)))))) (zRaise 6) zNx)
def b_Thrust___init___1 : MS := (sasg (kCall gcd4D (aCons (kFld cf_across "across" (mvar 1)) (aCons (kFld cf_up "up" (mvar 1)) (aCons (kFld cf_moment "moment" (mvar 1)) (aCons (mvar 2) aNil))))) (gnm 3))
def b_Thrust___init___2 : MS := (objPut 9 "force" (mvar 0) (kMk 7 m_Force___init__ [] (aCons (kOp fdvI (kFld cf_across "across" (mvar 1)) (mvar 3)) (aCons (kOp fdvI (kFld cf_up "up" (mvar 1)) (mvar 3)) (aCons (kOp fdvI (kFld cf_moment "moment" (mvar 1)) (mvar 3)) aNil)))))
def b_Thrust___init___3 : MS := (objPut 9 "parts" (mvar 0) (kOp fdvI (mvar 2) (mvar 3)))
def b_Thrust___init__ : MS := (sseq b_Thrust___init___0 (sseq b_Thrust___init___1 (sseq b_Thrust___init___2 b_Thrust___init___3)))
def m_Thrust___init__ : List D → M D := mdef 4 b_Thrust___init__
theorem ok_Thrust___init__ (T : Txt K mg a) : FnOk P w K mg base (L2.CX P w) 5 a.f_Thrust___init__ a.d_Thrust___init__ ["self", "force", "parts"] (spM (gt a) 3 m_Thrust___init__) :=
  ok_fd T.t_Thrust___init__ sc_Thrust___init__ rfl fun cdv A outer s H E hr => by
    have tk0 := takes_of (X := (cxOf (L2.CX P w) P w K mg base ["self", "force", "parts", "divisor"] "Thrust.__init__" (defScope s_Thrust___init__) a.f_Thrust___init__ cdv A outer s H E)) (E := E) rfl rfl rfl rfl
    have po0 : PassesOwn (model P w) (cxOf (L2.CX P w) P w K mg base ["self", "force", "parts", "divisor"] "Thrust.__init__" (defScope s_Thrust___init__) a.f_Thrust___init__ cdv A outer s H E).A (cxOf (L2.CX P w) P w K mg base ["self", "force", "parts", "divisor"] "Thrust.__init__" (defScope s_Thrust___init__) a.f_Thrust___init__ cdv A outer s H E).env (cxOf (L2.CX P w) P w K mg base ["self", "force", "parts", "divisor"] "Thrust.__init__" (defScope s_Thrust___init__) a.f_Thrust___init__ cdv A outer s H E).xe := passes_of rfl
    exact ⟨_, (dss_cons (z_if (dt_w (w_or (q_not (q_val (x_callB (cr_isi rfl) (prim_isiA (isa T)) T.n_isinstance (by decide +kernel) (a_cons (de_var 1) (a_cons (x_cls (n := 7) T.m_Force) a_nil))))) (w_or (q_not (q_val (x_call (ok_is_number T) (hr.mono (by decide)) tk0 T.m_is_number T.t_is_number.kp T.b_is_number (a_cons (de_var 2) a_nil) (l_cons l_nil)))) (w_or1 (q_cmp op_lt prim_lt (de_var 2) x_int))))) (dss_one (z_raise0 (cn := 6) rfl tk0 T.e_BadThrust sci_BadThrust rfl (hr.mono (by decide)))) z_nil) (dss_cons (ds_set (i := 3) sc_Thrust___init__.nd (x_callG cr_gcd4 prim_gcd4 T.g_gcd (a_cons (x_fld (fk_across T) (de_var 1)) (a_cons (x_fld (fk_up T) (de_var 1)) (a_cons (x_fld (fk_moment T) (de_var 1)) (a_cons (de_var 2) a_nil)))))) (dss_cons (ds_objPut 9 (fk_force T 9 rfl).1 (fk_force T 9 rfl).2 (de_var 0) (x_mk T.mk_Force (ok_Force___init__ T) (hr.mono (by decide)) tk0 .nil (fun _ _ => rfl) (a_cons (x_op op_fdivX prim_fdv (x_fld (fk_across T) (de_var 1)) (de_var 3)) (a_cons (x_op op_fdivX prim_fdv (x_fld (fk_up T) (de_var 1)) (de_var 3)) (a_cons (x_op op_fdivX prim_fdv (x_fld (fk_moment T) (de_var 1)) (de_var 3)) a_nil))) (l_cons (l_cons (l_cons l_nil))) (by decide))) (dss_one (ds_objPut 9 (fk_parts T 9 rfl).1 (fk_parts T 9 rfl).2 (de_var 0) (x_op op_fdivX prim_fdv (de_var 2) (de_var 3)))))))⟩

def b__law_equal_0 : MS := (sasg (kMk 7 m_Force___init__ [] (aCons (kOp itemD (mvar 1) (kC (.int 0))) (aCons (kOp itemD (mvar 1) (kC (.int 1))) (aCons (kOp itemD (mvar 1) (kC (.int 2))) aNil)))) (gnm 2))
def b__law_equal_1 : MS := (sasg (kCall m__law_take (aCons (mvar 0) (aCons (kC (.int 3)) aNil))) (gnm 3))
def b__law_equal_2 : MS := (sasg (kCall m__law_of (aCons (mvar 0) (aCons (kCall lstD (aCons (kC (.int 1)) (aCons (kUn negI (kC (.int 1))) (aCons (kOp powI (kC (.int 10)) (kC (.int 30))) aNil)))) aNil))) (gnm 4))
def b__law_equal_3 : MS := (sasg (kLc (iR1 (aCons (kC (.int 3)) aNil)) (gnm 7) (fun _ => mret true) (kOp addIL (kOp itemD (mvar 1) (mvar 7)) (kOp mulI (mvar 4) (kCall intD (aCons (kOp eqA (mvar 7) (mvar 3)) aNil)))) [7]) (gnm 5))
def b__law_equal_4 : MS := (sasg (kMk 7 m_Force___init__ [] (aCons (kOp itemD (mvar 5) (kC (.int 0))) (aCons (kOp itemD (mvar 5) (kC (.int 1))) (aCons (kOp itemD (mvar 5) (kC (.int 2))) aNil)))) (gnm 6))
def b__law_equal_5 : MS := (zIf (kOr (kB (kOp (oneB 7 nf_Force m_Force___eq__) (mvar 2) (kMk 7 m_Force___init__ [] (aCons (kOp itemD (mvar 1) (kC (.int 0))) (aCons (kOp itemD (mvar 1) (kC (.int 1))) (aCons (kOp itemD (mvar 1) (kC (.int 2))) aNil)))))) (kOr (kB (kOp (oeqB 7 nf_Force m_Force___eq__) (mvar 2) (mvar 6))) (kOr (kNot (kB (kOp (oeqB 7 nf_Force m_Force___eq__) (mvar 2) (mvar 2)))) (kNot (kB (kOp (oneB 7 nf_Force m_Force___eq__) (mvar 6) (mvar 2))))))) (zRet (kC (.bl false))) zNx)
def b__law_equal_6 : MS := (zRet (kAndV (kNotV (kOp (oeqB 7 nf_Force m_Force___eq__) (mvar 2) (kCall tupD (aCons (kOp itemD (mvar 1) (kC (.int 0))) (aCons (kOp itemD (mvar 1) (kC (.int 1))) (aCons (kOp itemD (mvar 1) (kC (.int 2))) aNil)))))) (kAndV (kNotV (kOp (oeqB 7 nf_Force m_Force___eq__) (mvar 2) (kC (.str "force")))) (kAndV (kNotV (kOp (oeqB 7 nf_Force m_Force___eq__) (mvar 2) (kMk 8 m_Load___init__ [] (aCons (kCall lstD (aCons (mvar 2) aNil)) aNil)))) (kNotV (kOp (oeqB 7 nf_Force m_Force___eq__) (mvar 2) (kMk 9 m_Thrust___init__ [.int 1] (aCons (mvar 2) aNil))))))))
def b__law_equal : MS := (sseq b__law_equal_0 (sseq b__law_equal_1 (sseq b__law_equal_2 (sseq b__law_equal_3 (sseq b__law_equal_4 (sseq b__law_equal_5 b__law_equal_6))))))
def m__law_equal : List D → M D := mdef 8 b__law_equal
theorem ok__law_equal (T : Txt K mg a) : FnOk P w K mg base (L2.CX P w) 7 a.f__law_equal a.d__law_equal ["_law_pen_here", "_law_one"] (spM (gt a) 2 m__law_equal) :=
  ok_fd T.t__law_equal sc__law_equal rfl fun cdv A outer s H E hr => by
    have tk0 := takes_of (X := (cxOf (L2.CX P w) P w K mg base ["_law_pen_here", "_law_one", "_law_f", "_law_at", "_law_step", "_law_other", "_law_g", "_law_k"] "_law_equal" (defScope s__law_equal) a.f__law_equal cdv A outer s H E)) (E := E) rfl rfl rfl rfl
    have po0 : PassesOwn (model P w) (cxOf (L2.CX P w) P w K mg base ["_law_pen_here", "_law_one", "_law_f", "_law_at", "_law_step", "_law_other", "_law_g", "_law_k"] "_law_equal" (defScope s__law_equal) a.f__law_equal cdv A outer s H E).A (cxOf (L2.CX P w) P w K mg base ["_law_pen_here", "_law_one", "_law_f", "_law_at", "_law_step", "_law_other", "_law_g", "_law_k"] "_law_equal" (defScope s__law_equal) a.f__law_equal cdv A outer s H E).env (cxOf (L2.CX P w) P w K mg base ["_law_pen_here", "_law_one", "_law_f", "_law_at", "_law_step", "_law_other", "_law_g", "_law_k"] "_law_equal" (defScope s__law_equal) a.f__law_equal cdv A outer s H E).xe := passes_of rfl
    exact ⟨_, (dss_cons (ds_set (i := 2) sc__law_equal.nd (x_mk T.mk_Force (ok_Force___init__ T) (hr.mono (by decide)) tk0 .nil (fun _ _ => rfl) (a_cons (x_ix rfl (de_var 1) x_int) (a_cons (x_ix rfl (de_var 1) x_int) (a_cons (x_ix rfl (de_var 1) x_int) a_nil))) (l_cons (l_cons (l_cons l_nil))) (by decide))) (dss_cons (ds_set (i := 3) sc__law_equal.nd (x_call (ok__law_take T) (hr.mono (by decide)) tk0 T.m__law_take T.t__law_take.kp T.b__law_take (a_cons (de_var 0) (a_cons x_int a_nil)) (l_cons (l_cons l_nil)))) (dss_cons (ds_set (i := 4) sc__law_equal.nd (x_call (ok__law_of T) (hr.mono (by decide)) tk0 T.m__law_of T.t__law_of.kp T.b__law_of (a_cons (de_var 0) (a_cons (x_lst (a_cons x_int (a_cons (x_un un_neg prim_neg x_int) (a_cons (x_op op_pow prim_pow x_int x_int) a_nil)))) a_nil)) (l_cons (l_cons l_nil)))) (dss_cons (z_setLc (i := 5) [("_law_k", 7)] rfl sc__law_equal.nd rfl rfl (sw_true rfl rfl rfl (by decide +kernel)) (i_range1 T.n_range (a_cons x_int a_nil)) (blkOk_by (N := ["_law_pen_here", "_law_one", "_law_f", "_law_at", "_law_step", "_law_other", "_law_g", "_law_k"]) (sc := defScope s__law_equal) (by decide +kernel)) (fun _ _ _ _ _ => (dg_name (i := 7) (by decide) sc__law_equal.nd)) (fun _ _ _ _ _ => pts_nil) run_yes (fun _ _ _ _ _ => (x_op (op_add.or op_cat) prim_addIL (x_ix rfl (de_var 1) (de_var 7)) (x_op op_mulX prim_mul (de_var 4) (x_callTy call_int1 prim_int T.n_int (by decide +kernel) (a_cons (x_cmp (op_eqA rfl hr.units) prim_eq (de_var 7) (de_var 3)) a_nil)))))) (dss_cons (ds_set (i := 6) sc__law_equal.nd (x_mk T.mk_Force (ok_Force___init__ T) (hr.mono (by decide)) tk0 .nil (fun _ _ => rfl) (a_cons (x_ix rfl (de_var 5) x_int) (a_cons (x_ix rfl (de_var 5) x_int) (a_cons (x_ix rfl (de_var 5) x_int) a_nil))) (l_cons (l_cons (l_cons l_nil))) (by decide))) (dss_cons (z_if (dt_w (w_or (q_cmp (op_one rfl T.eq_Force___eq__ T.no_Force (ok_Force___eq__ T) (hr.mono (by decide)) (hu_of hr)) (prim_one (nfk_Force T)) (de_var 2) (x_mk T.mk_Force (ok_Force___init__ T) (hr.mono (by decide)) tk0 .nil (fun _ _ => rfl) (a_cons (x_ix rfl (de_var 1) x_int) (a_cons (x_ix rfl (de_var 1) x_int) (a_cons (x_ix rfl (de_var 1) x_int) a_nil))) (l_cons (l_cons (l_cons l_nil))) (by decide))) (w_or (q_cmp (op_oeq rfl T.eq_Force___eq__ (ok_Force___eq__ T) (hr.mono (by decide)) (Nat.lt_of_succ_lt (hu_of hr))) (prim_oeq (nfk_Force T)) (de_var 2) (de_var 6)) (w_or (q_not (q_cmp (op_oeq rfl T.eq_Force___eq__ (ok_Force___eq__ T) (hr.mono (by decide)) (Nat.lt_of_succ_lt (hu_of hr))) (prim_oeq (nfk_Force T)) (de_var 2) (de_var 2))) (w_or1 (q_not (q_cmp (op_one rfl T.eq_Force___eq__ T.no_Force (ok_Force___eq__ T) (hr.mono (by decide)) (hu_of hr)) (prim_one (nfk_Force T)) (de_var 6) (de_var 2)))))))) (dss_one (z_ret x_bl)) z_nil) (dss_one (z_ret (x_and (x_not (x_cmp (op_oeq rfl T.eq_Force___eq__ (ok_Force___eq__ T) (hr.mono (by decide)) (Nat.lt_of_succ_lt (hu_of hr))) (prim_oeq (nfk_Force T)) (de_var 2) (x_tup (a_cons (x_ix rfl (de_var 1) x_int) (a_cons (x_ix rfl (de_var 1) x_int) (a_cons (x_ix rfl (de_var 1) x_int) a_nil)))))) (x_and (x_not (x_cmp (op_oeq rfl T.eq_Force___eq__ (ok_Force___eq__ T) (hr.mono (by decide)) (Nat.lt_of_succ_lt (hu_of hr))) (prim_oeq (nfk_Force T)) (de_var 2) x_str)) (x_and (x_not (x_cmp (op_oeq rfl T.eq_Force___eq__ (ok_Force___eq__ T) (hr.mono (by decide)) (Nat.lt_of_succ_lt (hu_of hr))) (prim_oeq (nfk_Force T)) (de_var 2) (x_mk T.mk_Load (ok_Load___init__ T) (hr.mono (by decide)) tk0 .nil (fun _ _ => rfl) (a_cons (x_lst (a_cons (de_var 2) a_nil)) a_nil) (l_cons l_nil) (by decide)))) (de_one (x_not (x_cmp (op_oeq rfl T.eq_Force___eq__ (ok_Force___eq__ T) (hr.mono (by decide)) (Nat.lt_of_succ_lt (hu_of hr))) (prim_oeq (nfk_Force T)) (de_var 2) (x_mk T.mk1_Thrust (ok_Thrust___init__ T) (hr.mono (by decide)) tk0 (T.bd1_Thrust___init__).choose_spec.1 (fun _ _ => ⟨_, _, rfl, rfl, rfl⟩) (a_cons (de_var 2) a_nil) (l_cons l_nil) (by decide))))))))))))))))⟩

def b_Force_about_0 : MS := (sasg (mvar 1) (gem 2 (gcn (gnm 2) (gcn (gnm 3) gnl))))
def b_Force_about_1 : MS := (zRet (kOp addIL (kOp subI (kFld cf_moment "moment" (mvar 0)) (kOp mulI (mvar 2) (kFld cf_up "up" (mvar 0)))) (kOp mulI (mvar 3) (kFld cf_across "across" (mvar 0)))))
def b_Force_about : MS := (sseq b_Force_about_0 b_Force_about_1)
def m_Force_about : List D → M D := mdef 4 b_Force_about
theorem ok_Force_about (T : Txt K mg a) : FnOk P w K mg base (L2.CX P w) 1 a.f_Force_about a.d_Force_about ["self", "point"] (spM (gt a) 2 m_Force_about) :=
  ok_fd T.t_Force_about sc_Force_about rfl fun cdv A outer s H E hr => by
    have tk0 := takes_of (X := (cxOf (L2.CX P w) P w K mg base ["self", "point", "x", "y"] "Force.about" (defScope s_Force_about) a.f_Force_about cdv A outer s H E)) (E := E) rfl rfl rfl rfl
    have po0 : PassesOwn (model P w) (cxOf (L2.CX P w) P w K mg base ["self", "point", "x", "y"] "Force.about" (defScope s_Force_about) a.f_Force_about cdv A outer s H E).A (cxOf (L2.CX P w) P w K mg base ["self", "point", "x", "y"] "Force.about" (defScope s_Force_about) a.f_Force_about cdv A outer s H E).env (cxOf (L2.CX P w) P w K mg base ["self", "point", "x", "y"] "Force.about" (defScope s_Force_about) a.f_Force_about cdv A outer s H E).xe := passes_of rfl
    exact ⟨_, (dss_cons (ds_asg (vs := [2, 3]) (de_var 1) (g_sq rfl rfl (g_cons (dg_name (i := 2) (by decide) sc_Force_about.nd) (g_cons (dg_name (i := 3) (by decide) sc_Force_about.nd) g_nil)))) (dss_one (z_ret (x_op (op_add.or op_cat) prim_addIL (x_op op_sub prim_sub (x_fld (fk_moment T) (de_var 0)) (x_op op_mulX prim_mul (de_var 2) (x_fld (fk_up T) (de_var 0)))) (x_op op_mulX prim_mul (de_var 3) (x_fld (fk_across T) (de_var 0)))))))⟩

def b_Force_acting_0 : MS := (sasg (mvar 3) (gem 2 (gcn (gnm 4) (gcn (gnm 5) gnl))))
def b_Force_acting_1 : MS := (zRet (kMkV 7 m_Force___init__ [] (mvar 0) (aCons (mvar 1) (aCons (mvar 2) (aCons (kOp subI (kOp mulI (mvar 4) (mvar 2)) (kOp mulI (mvar 5) (mvar 1))) aNil)))))
def b_Force_acting : MS := (sseq b_Force_acting_0 b_Force_acting_1)
def m_Force_acting : List D → M D := mdef 6 b_Force_acting
theorem ok_Force_acting (T : Txt K mg a) : FnOk P w K mg base (L2.CX P w) 5 a.f_Force_acting a.d_Force_acting ["cls", "across", "up", "point"] (spM (gt a) 4 m_Force_acting) :=
  ok_fd T.t_Force_acting sc_Force_acting rfl fun cdv A outer s H E hr => by
    have tk0 := takes_of (X := (cxOf (L2.CX P w) P w K mg base ["cls", "across", "up", "point", "x", "y"] "Force.acting" (defScope s_Force_acting) a.f_Force_acting cdv A outer s H E)) (E := E) rfl rfl rfl rfl
    have po0 : PassesOwn (model P w) (cxOf (L2.CX P w) P w K mg base ["cls", "across", "up", "point", "x", "y"] "Force.acting" (defScope s_Force_acting) a.f_Force_acting cdv A outer s H E).A (cxOf (L2.CX P w) P w K mg base ["cls", "across", "up", "point", "x", "y"] "Force.acting" (defScope s_Force_acting) a.f_Force_acting cdv A outer s H E).env (cxOf (L2.CX P w) P w K mg base ["cls", "across", "up", "point", "x", "y"] "Force.acting" (defScope s_Force_acting) a.f_Force_acting cdv A outer s H E).xe := passes_of rfl
    exact ⟨_, (dss_cons (ds_asg (vs := [4, 5]) (de_var 3) (g_sq rfl rfl (g_cons (dg_name (i := 4) (by decide) sc_Force_acting.nd) (g_cons (dg_name (i := 5) (by decide) sc_Force_acting.nd) g_nil)))) (dss_one (z_ret (x_makeV T.mk_Force (ok_Force___init__ T) (hr.mono (by decide)) tk0 .nil (fun _ _ => rfl) (de_var 0) (a_cons (de_var 1) (a_cons (de_var 2) (a_cons (x_op op_sub prim_sub (x_op op_mulX prim_mul (de_var 4) (de_var 2)) (x_op op_mulX prim_mul (de_var 5) (de_var 1))) a_nil))) (l_cons (l_cons (l_cons l_nil))) (by decide)))))⟩

def b_Force_hanging : MS := (zRet (kMkV 7 m_Force___init__ [] (mvar 0) (aCons (kC (.int 0)) (aCons (kUn negI (mvar 1)) (aCons (kOp mulI (kUn negI (mvar 1)) (mvar 2)) aNil)))))
def m_Force_hanging : List D → M D := mdef 3 b_Force_hanging
theorem ok_Force_hanging (T : Txt K mg a) : FnOk P w K mg base (L2.CX P w) 5 a.f_Force_hanging a.d_Force_hanging ["cls", "weight", "x"] (spM (gt a) 3 m_Force_hanging) :=
  ok_fd T.t_Force_hanging sc_Force_hanging rfl fun cdv A outer s H E hr => by
    have tk0 := takes_of (X := (cxOf (L2.CX P w) P w K mg base ["cls", "weight", "x"] "Force.hanging" (defScope s_Force_hanging) a.f_Force_hanging cdv A outer s H E)) (E := E) rfl rfl rfl rfl
    have po0 : PassesOwn (model P w) (cxOf (L2.CX P w) P w K mg base ["cls", "weight", "x"] "Force.hanging" (defScope s_Force_hanging) a.f_Force_hanging cdv A outer s H E).A (cxOf (L2.CX P w) P w K mg base ["cls", "weight", "x"] "Force.hanging" (defScope s_Force_hanging) a.f_Force_hanging cdv A outer s H E).env (cxOf (L2.CX P w) P w K mg base ["cls", "weight", "x"] "Force.hanging" (defScope s_Force_hanging) a.f_Force_hanging cdv A outer s H E).xe := passes_of rfl
    exact ⟨_, (dss_one (z_ret (x_makeV T.mk_Force (ok_Force___init__ T) (hr.mono (by decide)) tk0 .nil (fun _ _ => rfl) (de_var 0) (a_cons x_int (a_cons (x_un un_neg prim_neg (de_var 1)) (a_cons (x_op op_mulX prim_mul (x_un un_neg prim_neg (de_var 1)) (de_var 2)) a_nil))) (l_cons (l_cons (l_cons l_nil))) (by decide))))⟩

def b__law_about_0 : MS := (sasg (kCall tupD (aCons (kOp subI (kCall m__law_take (aCons (mvar 0) (aCons (kC (.int 2000001)) aNil))) (kC (.int 1000000))) (aCons (kOp subI (kCall m__law_take (aCons (mvar 0) (aCons (kC (.int 41)) aNil))) (kC (.int 20))) aNil))) (gnm 3))
def b__law_about_1 : MS := (zIf (kB (kOp eqA (kCall m__law_take (aCons (mvar 0) (aCons (kC (.int 2)) aNil))) (kC (.int 0)))) (sasg (kCall tupD (aCons (kOp itemD (mvar 3) (kC (.int 1))) (aCons (kUn negI (kOp itemD (mvar 3) (kC (.int 0)))) aNil))) (gnm 3)) zNx)
def b__law_about_2 : MS := (spar 6 7 (aCons (kMk 7 m_Force___init__ [] (aCons (kOp itemD (mvar 1) (kC (.int 0))) (aCons (kOp itemD (mvar 1) (kC (.int 1))) (aCons (kOp itemD (mvar 1) (kC (.int 2))) aNil)))) (aCons (kMk 7 m_Force___init__ [] (aCons (kOp itemD (mvar 2) (kC (.int 0))) (aCons (kOp itemD (mvar 2) (kC (.int 1))) (aCons (kOp itemD (mvar 2) (kC (.int 2))) aNil)))) aNil)))
def b__law_about_3 : MS := (zIf (kOr (kNot (kB (kCall m__law_is_number (aCons (kMeth 7 "about" m_Force_about [] (mvar 6) (aCons (mvar 3) aNil)) aNil)))) (kB (kOp neA (kMeth 7 "about" m_Force_about [] (mvar 6) (aCons (mvar 3) aNil)) (kCall m__law_moment (aCons (mvar 1) (aCons (mvar 3) aNil)))))) (zRet (kC (.bl false))) zNx)
def b__law_about_4 : MS := (zIf (kOr (kB (kOp neA (kMeth 7 "about" m_Force_about [] (kOp (ownX 7 m_Force___add__) (mvar 6) (mvar 7)) (aCons (kCall listD (aCons (mvar 3) aNil)) aNil)) (kOp addIL (kMeth 7 "about" m_Force_about [] (mvar 6) (aCons (mvar 3) aNil)) (kMeth 7 "about" m_Force_about [] (mvar 7) (aCons (mvar 3) aNil))))) (kB (kOp neA (kMeth 7 "about" m_Force_about [] (kUn (ownN 7 m_Force___neg__) (mvar 7)) (aCons (mvar 3) aNil)) (kUn negI (kCall m__law_moment (aCons (mvar 2) (aCons (mvar 3) aNil))))))) (zRet (kC (.bl false))) zNx)
def b__law_about_5 : MS := (sasg (kCmS 7 m_Force_acting [] (kC (.cls 7)) (aCons (kOp itemD (mvar 1) (kC (.int 0))) (aCons (kOp itemD (mvar 1) (kC (.int 1))) (aCons (mvar 3) aNil)))) (gnm 4))
def b__law_about_6 : MS := (zIf (kOr (kNot (kB (kCall m__law_right (aCons (mvar 4) (aCons (kCall tupD (aCons (kOp itemD (mvar 1) (kC (.int 0))) (aCons (kOp itemD (mvar 1) (kC (.int 1))) (aCons (kOp subI (kOp mulI (kOp itemD (mvar 3) (kC (.int 0))) (kOp itemD (mvar 1) (kC (.int 1)))) (kOp mulI (kOp itemD (mvar 3) (kC (.int 1))) (kOp itemD (mvar 1) (kC (.int 0))))) aNil)))) aNil))))) (kB (kOp neA (kMeth 7 "about" m_Force_about [] (mvar 4) (aCons (mvar 3) aNil)) (kC (.int 0))))) (zRet (kC (.bl false))) zNx)
def b__law_about_7 : MS := (sasg (kCmS 7 m_Force_hanging [] (kC (.cls 7)) (aCons (kOp itemD (mvar 2) (kC (.int 0))) (aCons (kOp itemD (mvar 3) (kC (.int 0))) aNil))) (gnm 5))
def b__law_about_8 : MS := (zIf (kOr (kNot (kB (kCall m__law_right (aCons (mvar 5) (aCons (kCall tupD (aCons (kC (.int 0)) (aCons (kUn negI (kOp itemD (mvar 2) (kC (.int 0)))) (aCons (kOp mulI (kUn negI (kOp itemD (mvar 2) (kC (.int 0)))) (kOp itemD (mvar 3) (kC (.int 0)))) aNil)))) aNil))))) (kB (kOp neA (kMeth 7 "about" m_Force_about [] (mvar 5) (aCons (kCall tupD (aCons (kOp itemD (mvar 3) (kC (.int 0))) (aCons (kC (.int 17)) aNil))) aNil)) (kC (.int 0))))) (zRet (kC (.bl false))) zNx)
def b__law_about_9 : MS := (zRet (kAndV (kOp (oeqB 7 nf_Force m_Force___eq__) (mvar 5) (kCmS 7 m_Force_acting [] (kC (.cls 7)) (aCons (kC (.int 0)) (aCons (kUn negI (kOp itemD (mvar 2) (kC (.int 0)))) (aCons (mvar 3) aNil))))) (kCall m__law_right (aCons (kCmS 7 m_Force_none [] (kC (.cls 7)) aNil) (aCons (kCall tupD (aCons (kC (.int 0)) (aCons (kC (.int 0)) (aCons (kC (.int 0)) aNil)))) aNil)))))
def b__law_about : MS := (sseq b__law_about_0 (sseq b__law_about_1 (sseq b__law_about_2 (sseq b__law_about_3 (sseq b__law_about_4 (sseq b__law_about_5 (sseq b__law_about_6 (sseq b__law_about_7 (sseq b__law_about_8 b__law_about_9)))))))))
def m__law_about : List D → M D := mdef 8 b__law_about
theorem ok__law_about (T : Txt K mg a) : FnOk P w K mg base (L2.CX P w) 6 a.f__law_about a.d__law_about ["_law_pen_here", "_law_one", "_law_other"] (spM (gt a) 3 m__law_about) :=
  ok_fd T.t__law_about sc__law_about rfl fun cdv A outer s H E hr => by
    have tk0 := takes_of (X := (cxOf (L2.CX P w) P w K mg base ["_law_pen_here", "_law_one", "_law_other", "_law_point", "_law_acting", "_law_hanging", "_law_f", "_law_g"] "_law_about" (defScope s__law_about) a.f__law_about cdv A outer s H E)) (E := E) rfl rfl rfl rfl
    have po0 : PassesOwn (model P w) (cxOf (L2.CX P w) P w K mg base ["_law_pen_here", "_law_one", "_law_other", "_law_point", "_law_acting", "_law_hanging", "_law_f", "_law_g"] "_law_about" (defScope s__law_about) a.f__law_about cdv A outer s H E).A (cxOf (L2.CX P w) P w K mg base ["_law_pen_here", "_law_one", "_law_other", "_law_point", "_law_acting", "_law_hanging", "_law_f", "_law_g"] "_law_about" (defScope s__law_about) a.f__law_about cdv A outer s H E).env (cxOf (L2.CX P w) P w K mg base ["_law_pen_here", "_law_one", "_law_other", "_law_point", "_law_acting", "_law_hanging", "_law_f", "_law_g"] "_law_about" (defScope s__law_about) a.f__law_about cdv A outer s H E).xe := passes_of rfl
    exact ⟨_, (dss_cons (ds_set (i := 3) sc__law_about.nd (x_tup (a_cons (x_op op_sub prim_sub (x_call (ok__law_take T) (hr.mono (by decide)) tk0 T.m__law_take T.t__law_take.kp T.b__law_take (a_cons (de_var 0) (a_cons x_int a_nil)) (l_cons (l_cons l_nil))) x_int) (a_cons (x_op op_sub prim_sub (x_call (ok__law_take T) (hr.mono (by decide)) tk0 T.m__law_take T.t__law_take.kp T.b__law_take (a_cons (de_var 0) (a_cons x_int a_nil)) (l_cons (l_cons l_nil))) x_int) a_nil)))) (dss_cons (z_if (q_cmp (op_eqA rfl hr.units) prim_eq (x_call (ok__law_take T) (hr.mono (by decide)) tk0 T.m__law_take T.t__law_take.kp T.b__law_take (a_cons (de_var 0) (a_cons x_int a_nil)) (l_cons (l_cons l_nil))) x_int) (dss_one (ds_set (i := 3) sc__law_about.nd (x_tup (a_cons (x_ix rfl (de_var 3) x_int) (a_cons (x_un un_neg prim_neg (x_ix rfl (de_var 3) x_int)) a_nil))))) z_nil) (dss_cons (ds_par (i := 6) (j := 7) rfl sc__law_about.nd rfl rfl (by decide) rfl rfl (a_cons (x_mk T.mk_Force (ok_Force___init__ T) (hr.mono (by decide)) tk0 .nil (fun _ _ => rfl) (a_cons (x_ix rfl (de_var 1) x_int) (a_cons (x_ix rfl (de_var 1) x_int) (a_cons (x_ix rfl (de_var 1) x_int) a_nil))) (l_cons (l_cons (l_cons l_nil))) (by decide)) (a_cons (x_mk T.mk_Force (ok_Force___init__ T) (hr.mono (by decide)) tk0 .nil (fun _ _ => rfl) (a_cons (x_ix rfl (de_var 2) x_int) (a_cons (x_ix rfl (de_var 2) x_int) (a_cons (x_ix rfl (de_var 2) x_int) a_nil))) (l_cons (l_cons (l_cons l_nil))) (by decide)) a_nil))) (dss_cons (z_if (dt_w (w_or (q_not (q_val (x_call (ok__law_is_number T) (hr.mono (by decide)) tk0 T.m__law_is_number T.t__law_is_number.kp T.b__law_is_number (a_cons (x_meth T.mt_Force_about (ok_Force_about T) (hr.mono (by decide)) tk0 .nil (fun _ _ => rfl) (de_var 6) (a_cons (de_var 3) a_nil) (l_cons l_nil) (by decide)) a_nil) (l_cons l_nil)))) (w_or1 (q_cmp (op_neA rfl hr.units) prim_ne (x_meth T.mt_Force_about (ok_Force_about T) (hr.mono (by decide)) tk0 .nil (fun _ _ => rfl) (de_var 6) (a_cons (de_var 3) a_nil) (l_cons l_nil) (by decide)) (x_call (ok__law_moment T) (hr.mono (by decide)) tk0 T.m__law_moment T.t__law_moment.kp T.b__law_moment (a_cons (de_var 1) (a_cons (de_var 3) a_nil)) (l_cons (l_cons l_nil))))))) (dss_one (z_ret x_bl)) z_nil) (dss_cons (z_if (dt_w (w_or (q_cmp (op_neA rfl hr.units) prim_ne (x_meth T.mt_Force_about (ok_Force_about T) (hr.mono (by decide)) tk0 .nil (fun _ _ => rfl) (x_own T.op_Force___add__ (ok_Force___add__ T) (hr.mono (by decide)) tk0 (de_var 6) (de_var 7)) (a_cons (x_callTy (cr_list rfl) prim_list T.n_list (by decide +kernel) (a_cons (de_var 3) a_nil)) a_nil) (l_cons l_nil) (by decide)) (x_op (op_add.or op_cat) prim_addIL (x_meth T.mt_Force_about (ok_Force_about T) (hr.mono (by decide)) tk0 .nil (fun _ _ => rfl) (de_var 6) (a_cons (de_var 3) a_nil) (l_cons l_nil) (by decide)) (x_meth T.mt_Force_about (ok_Force_about T) (hr.mono (by decide)) tk0 .nil (fun _ _ => rfl) (de_var 7) (a_cons (de_var 3) a_nil) (l_cons l_nil) (by decide)))) (w_or1 (q_cmp (op_neA rfl hr.units) prim_ne (x_meth T.mt_Force_about (ok_Force_about T) (hr.mono (by decide)) tk0 .nil (fun _ _ => rfl) (x_un (un_own T.ng_Force___neg__ (ok_Force___neg__ T) (hr.mono (by decide))) prim_ownN (de_var 7)) (a_cons (de_var 3) a_nil) (l_cons l_nil) (by decide)) (x_un un_neg prim_neg (x_call (ok__law_moment T) (hr.mono (by decide)) tk0 T.m__law_moment T.t__law_moment.kp T.b__law_moment (a_cons (de_var 2) (a_cons (de_var 3) a_nil)) (l_cons (l_cons l_nil)))))))) (dss_one (z_ret x_bl)) z_nil) (dss_cons (ds_set (i := 4) sc__law_about.nd (x_cmtS T.cm_Force_acting (ok_Force_acting T) (hr.mono (by decide)) tk0 .nil (fun _ _ => rfl) (x_cls (n := 7) T.m_Force) (a_cons (x_ix rfl (de_var 1) x_int) (a_cons (x_ix rfl (de_var 1) x_int) (a_cons (de_var 3) a_nil))) (l_cons (l_cons (l_cons l_nil))) (by decide))) (dss_cons (z_if (dt_w (w_or (q_not (q_val (x_call (ok__law_right T) (hr.mono (by decide)) tk0 T.m__law_right T.t__law_right.kp T.b__law_right (a_cons (de_var 4) (a_cons (x_tup (a_cons (x_ix rfl (de_var 1) x_int) (a_cons (x_ix rfl (de_var 1) x_int) (a_cons (x_op op_sub prim_sub (x_op op_mulX prim_mul (x_ix rfl (de_var 3) x_int) (x_ix rfl (de_var 1) x_int)) (x_op op_mulX prim_mul (x_ix rfl (de_var 3) x_int) (x_ix rfl (de_var 1) x_int))) a_nil)))) a_nil)) (l_cons (l_cons l_nil))))) (w_or1 (q_cmp (op_neA rfl hr.units) prim_ne (x_meth T.mt_Force_about (ok_Force_about T) (hr.mono (by decide)) tk0 .nil (fun _ _ => rfl) (de_var 4) (a_cons (de_var 3) a_nil) (l_cons l_nil) (by decide)) x_int)))) (dss_one (z_ret x_bl)) z_nil) (dss_cons (ds_set (i := 5) sc__law_about.nd (x_cmtS T.cm_Force_hanging (ok_Force_hanging T) (hr.mono (by decide)) tk0 .nil (fun _ _ => rfl) (x_cls (n := 7) T.m_Force) (a_cons (x_ix rfl (de_var 2) x_int) (a_cons (x_ix rfl (de_var 3) x_int) a_nil)) (l_cons (l_cons l_nil)) (by decide))) (dss_cons (z_if (dt_w (w_or (q_not (q_val (x_call (ok__law_right T) (hr.mono (by decide)) tk0 T.m__law_right T.t__law_right.kp T.b__law_right (a_cons (de_var 5) (a_cons (x_tup (a_cons x_int (a_cons (x_un un_neg prim_neg (x_ix rfl (de_var 2) x_int)) (a_cons (x_op op_mulX prim_mul (x_un un_neg prim_neg (x_ix rfl (de_var 2) x_int)) (x_ix rfl (de_var 3) x_int)) a_nil)))) a_nil)) (l_cons (l_cons l_nil))))) (w_or1 (q_cmp (op_neA rfl hr.units) prim_ne (x_meth T.mt_Force_about (ok_Force_about T) (hr.mono (by decide)) tk0 .nil (fun _ _ => rfl) (de_var 5) (a_cons (x_tup (a_cons (x_ix rfl (de_var 3) x_int) (a_cons x_int a_nil))) a_nil) (l_cons l_nil) (by decide)) x_int)))) (dss_one (z_ret x_bl)) z_nil) (dss_one (z_ret (x_and (x_cmp (op_oeq rfl T.eq_Force___eq__ (ok_Force___eq__ T) (hr.mono (by decide)) (Nat.lt_of_succ_lt (hu_of hr))) (prim_oeq (nfk_Force T)) (de_var 5) (x_cmtS T.cm_Force_acting (ok_Force_acting T) (hr.mono (by decide)) tk0 .nil (fun _ _ => rfl) (x_cls (n := 7) T.m_Force) (a_cons x_int (a_cons (x_un un_neg prim_neg (x_ix rfl (de_var 2) x_int)) (a_cons (de_var 3) a_nil))) (l_cons (l_cons (l_cons l_nil))) (by decide))) (de_one (x_call (ok__law_right T) (hr.mono (by decide)) tk0 T.m__law_right T.t__law_right.kp T.b__law_right (a_cons (x_cmtS0 T.cm_Force_none (ok_Force_none T) (hr.mono (by decide)) tk0 .nil (fun _ _ => rfl) (x_cls (n := 7) T.m_Force) (by decide)) (a_cons (x_tup (a_cons x_int (a_cons x_int (a_cons x_int a_nil)))) a_nil)) (l_cons (l_cons l_nil))))))))))))))))⟩

end
end K02

set_option Elab.async false
set_option linter.all false
set_option maxRecDepth 100000
set_option maxHeartbeats 4000000
set_option autoImplicit false
namespace K02
open PySem L2 PySem.Spec PyProof.Rows Tw
noncomputable section
variable {P : Program} {w : World} {K : PySem.W.Frag} {mg : Str → Option Value} {base : Heap} {a : Ad}
theorem ok__law_pen (T : Txt K mg a) : FnOk P w K mg base (L2.CX P w) 1 a.f__law_pen a.d__law_pen ["_law_script"] (spPen K) := by
  refine T.t__law_pen.ok sc__law_pen (fun vs H Q E h => by obtain ⟨_, _, rfl, _⟩ := h; rfl) fun cdv A outer s H vs Q E hr h => ?_
  obtain ⟨l, ns, rfl, hl, k⟩ := h
  refine ⟨_, pss_cons (ps_set (i := 1) sc__law_pen.nd rfl (.inl rfl) pe_int)
    (pss_cons (ps_for (passes_of rfl) rfl (pi_list (pv 0)) (pg_name (i := 2) sc__law_pen.nd rfl (.inl rfl)) (pss_one (ps_set (i := 1) sc__law_pen.nd rfl (.inl rfl)
      (pe_op op_mod (pe_callTy call_int1 (by rfl) T.n_int (by decide +kernel) (pa_cons (pe_op op_add (pe_op op_add (pe_op op_mul (pv 1) pe_int) (pe_op op_mod (pe_callTy call_int1 (by rfl) T.n_int (by decide +kernel) (pa_cons (pv 2) pa_nil)) pe_int)) pe_int) pa_nil)) pe_int))))
    (pss_one (ps_ret (pe_disp (pps_cons pe_str (pe_callTy call_list_of (by rfl) T.n_list (by decide +kernel) (pa_cons (pv 0) pa_nil)) (pps_cons pe_str pe_int (pps_cons pe_str pe_int (pps_cons pe_str pe_int (pps_cons pe_str (pv 1) (pps_cons pe_str pe_int pps_nil)))))) (by rfl) (by rfl) (fun z => by cases z) (by decide))))), ?_⟩
  refine ⟨_, rfl, l, rfl, ⟨_, hl⟩, for_list (xs := ns.map V.int) (fun i σ H2 => ∃ seed v, σ = [some (.ref l), some (.int seed), v] ∧ Same H H2) ⟨31, none, rfl, Same.refl H⟩ (fun i σ H2 _ ⟨_, _, _, hs⟩ => hs.seq hl) ?_ ?_⟩
  · rintro i x σ H2 hx ⟨seed, v, rfl, hs⟩
    rw [List.getElem?_map] at hx
    cases q : ns[i]? with
    | none => rw [q] at hx; cases hx
    | some n =>
      rw [q] at hx
      cases hx
      refine ⟨_, rfl, _, _, rfl, rfl, .inr ⟨by decide, by decide⟩, _, rfl, .inl ⟨_, rfl, _, _, rfl, rfl, (by decide : (0 : Int) < 2147483543), _, _, rfl, rfl, _, _, rfl, rfl, .inl ⟨_, rfl, _, _, rfl, rfl, (by decide : (0 : Int) < 2147483563), ?_⟩⟩⟩
      exact ⟨_, _, rfl, hs⟩
  · rintro σ H2 ⟨seed, v, rfl, hs⟩
    intro p hp
    refine ⟨_, rfl, l, _, rfl, .inl ((hs.trans (fun b o e => by rw [upd_ne (ne_of_none e hp)]; exact e)).seq hl), fun c hc => ?_⟩
    have hcp : p ≠ c := fun z => by subst z; rw [upd_same] at hc; cases hc
    have hc0 : H2 c = none := by rw [upd_ne (Ne.symm hcp)] at hc; exact hc
    refine ⟨_, rfl, by rw [upd_ne hcp, upd_same], [(Sum.inr "cells", .ref c), (Sum.inr "next", .int 0), (Sum.inr "digits", .int 0), (Sum.inr "rest", .int 0), (Sum.inr "seed", .int seed), (Sum.inr "turn", .int 0)], rfl, by show 6 ≤ 15; decide, ?_⟩
    refine k seed _ p c (fun b o e => ?_) (hs.free hp) (hs.free hc0) ?_ ?_
    · have e2 := hs b o e
      rw [upd_ne (ne_of_none e2 hp), upd_ne (ne_of_none e2 hc0), upd_ne (ne_of_none e2 hp)]
      exact e2
    · rw [upd_same]; rfl
    · rw [upd_ne (Ne.symm hcp), upd_same]

def b_law_0 : MS := (sasg (kCall m__law_numbers (aCons (mvar 1) aNil)) (gnm 2))
def b_law_1 : MS := (sasg (kCall m__law_numbers (aCons (mvar 1) aNil)) (gnm 3))
def b_law_2 : MS := (zIf (kOr (kNot (kB (kCall m__law_signs (aCons (mvar 2) (aCons (mvar 3) (aCons (kCall m__law_number (aCons (mvar 1) aNil)) aNil)))))) (kNot (kB (kCall m__law_equal (aCons (mvar 1) (aCons (mvar 2) aNil)))))) (zRet (kC (.bl false))) zNx)
def b_law_3 : MS := (zRet (kAndV (kCall m__law_about (aCons (mvar 1) (aCons (mvar 2) (aCons (mvar 3) aNil)))) (kCall m__law_refusals (aCons (mvar 1) aNil))))
def b_law : MS := (sseq b_law_0 (sseq b_law_1 (sseq b_law_2 b_law_3)))
def ρ0 : Tw.Loc := [none, some .pen, none, none]
def spLaw (K : PySem.W.Frag) : Sp := fun vs H Q _ => ∃ (l : Addr) (ns : List Int), vs = [.ref l] ∧ SqL K H l (ns.map V.int) ∧ ns.length ≤ 63 ∧ ∀ H', Q (.bl true) H'
theorem ok_law (good : ∀ s, ∃ s', b_law ρ0 s = .ret (.bl true) s') (T : Txt K mg a) : FnOk P w K mg base (L2.CX P w) 8 a.f_law a.d_law ["_law_script"] (spLaw K) := by
  refine T.t_law.ok sc_law (fun vs H Q E h => by obtain ⟨_, _, rfl, _⟩ := h; rfl) fun cdv A outer s H vs Q E hr h => ?_
  obtain ⟨l, ns, rfl, hl, _, k⟩ := h
  have tk0 := takes_of (X := cxOf (L2.CX P w) P w K mg base ["_law_script", "_law_pen_here", "_law_one", "_law_other"] "law" (defScope s_law) a.f_law cdv A outer s H E) (E := E) rfl rfl rfl rfl
  have po0 : PassesOwn (model P w) (cxOf (L2.CX P w) P w K mg base ["_law_script", "_law_pen_here", "_law_one", "_law_other"] "law" (defScope s_law) a.f_law cdv A outer s H E).A (cxOf (L2.CX P w) P w K mg base ["_law_script", "_law_pen_here", "_law_one", "_law_other"] "law" (defScope s_law) a.f_law cdv A outer s H E).env (cxOf (L2.CX P w) P w K mg base ["_law_script", "_law_pen_here", "_law_one", "_law_other"] "law" (defScope s_law) a.f_law cdv A outer s H E).xe := passes_of rfl
  have rest : ∃ t, DSs (gt a) (cxOf (L2.CX P w) P w K mg base ["_law_script", "_law_pen_here", "_law_one", "_law_other"] "law" (defScope s_law) a.f_law cdv A outer s H E) (fun c d _ H' => E c d H') ((defBody s_law).drop 1) t b_law := ⟨_, (dss_cons (ds_set (i := 2) sc_law.nd (x_call (ok__law_numbers T) (hr.mono (by decide)) tk0 T.m__law_numbers T.t__law_numbers.kp T.b__law_numbers (a_cons (de_var 1) a_nil) (l_cons l_nil))) (dss_cons (ds_set (i := 3) sc_law.nd (x_call (ok__law_numbers T) (hr.mono (by decide)) tk0 T.m__law_numbers T.t__law_numbers.kp T.b__law_numbers (a_cons (de_var 1) a_nil) (l_cons l_nil))) (dss_cons (z_if (dt_w (w_or (q_not (q_val (x_call (ok__law_signs T) (hr.mono (by decide)) tk0 T.m__law_signs T.t__law_signs.kp T.b__law_signs (a_cons (de_var 2) (a_cons (de_var 3) (a_cons (x_call (ok__law_number T) (hr.mono (by decide)) tk0 T.m__law_number T.t__law_number.kp T.b__law_number (a_cons (de_var 1) a_nil) (l_cons l_nil)) a_nil))) (l_cons (l_cons (l_cons l_nil)))))) (w_or1 (q_not (q_val (x_call (ok__law_equal T) (hr.mono (by decide)) tk0 T.m__law_equal T.t__law_equal.kp T.b__law_equal (a_cons (de_var 1) (a_cons (de_var 2) a_nil)) (l_cons (l_cons l_nil)))))))) (dss_one (z_ret x_bl)) z_nil) (dss_one (z_ret (x_and (x_call (ok__law_about T) (hr.mono (by decide)) tk0 T.m__law_about T.t__law_about.kp T.b__law_about (a_cons (de_var 1) (a_cons (de_var 2) (a_cons (de_var 3) a_nil))) (l_cons (l_cons (l_cons l_nil)))) (de_one (x_call (ok__law_refusals T) (hr.mono (by decide)) tk0 T.m__law_refusals T.t__law_refusals.kp T.b__law_refusals (a_cons (de_var 1) a_nil) (l_cons l_nil)))))))))⟩
  obtain ⟨t, dt⟩ := rest
  refine ⟨_, pss_cons (ps_set (i := 1) sc_law.nd rfl (.inl rfl) (pe_callS (ok__law_pen T) (hr.mono (by decide)) (by rfl) T.m__law_pen T.t__law_pen.kp T.b__law_pen (fun σ => passAt tk0 σ) (pa_cons (pv 0) pa_nil))) dt.ps, ?_⟩
  refine ⟨_, rfl, l, ns, rfl, hl, fun seed H' p c sm hp hc h1 h2 => ?_⟩
  obtain ⟨s', e'⟩ := good (pen0 ns seed)
  have hpc : c ≠ p := ne_of h2 h1 (fun z => nomatch z)
  refine dt.run ⟨some (p, false), none, fun z => z = p, fun z _ e => by cases e; rfl, (fun _ _ _ e => nomatch e), (fun _ _ _ _ _ _ e => nomatch e)⟩ _ H' ρ0 (pen0 ns seed) _ ⟨rfl, fun i d q => ?_⟩ ⟨fun b kd eb => ?_, (fun _ _ _ e => nomatch e), fun b hb => ⟨.dK (penKV c (pen0 ns seed)), by rw [show b = p from hb]; exact h1⟩⟩ ?_
  · match i, q with
    | 1, q => cases q; exact ⟨.ref p, rfl, p, rfl, rfl⟩
    | 0, q => cases q
    | 2, q => cases q
    | 3, q => cases q
    | n + 4, q => cases q
  · cases eb; exact .inr ⟨rfl, c, hpc, h1, h2⟩
  · rw [e']
    intro v H2 _ _ rd
    obtain rfl : v = .bl true := rd
    exact k H2

end
end K02

set_option Elab.async false
set_option linter.all false
set_option maxRecDepth 100000
set_option maxHeartbeats 4000000
set_option autoImplicit false
namespace K02
open PySem L2 Tw
local macro_rules | `(tactic| walk_at "sm") => `(tactic| first | assumption | exact Sm.lit200 (by decide) | (apply Sm.mul; walk_at "sm"; walk_at "sm") | (apply Sm.add2; walk_at "sm"; walk_at "sm") | (apply Sm.sub2; walk_at "sm"; walk_at "sm") | (apply Sm.neg; walk_at "sm"))
local macro_rules | `(tactic| walk_at "mo") => `(tactic| (apply mulOk_any; walk_at "sm"; walk_at "sm"; decide))
local macro_rules | `(tactic| walk_at "ds") => `(tactic| first | assumption | rfl | walk_at "mo" | decide | omega | grind)
local macro_rules | `(tactic| walk_at "tw") => `(tactic| simp (disch := walk_at "ds") only [mdef, startL, sseq, zNx, zIf, zRet, zRetN, zEx, zBk, zCt, zRaise, zRaiseN, sasg, spar, spar3, sof_ret, sof_ok, mret_ap, mbind_ap, obind_ok, mbind_ret, mbind_bad, kC, kOp, kUn, kB, kAnd, kOr, kNot, kAndV, kOrV, kNotV, kIf, kCh, aNil, aCons, kCall, kMk, kMkV, kCmS, kMeth, kProp, kFld, iL, iT, iR1, iR2, mvar, gnm, gtm, glm, gem, gcn, gnl, asB, asL, asT, int2, int2c, addIL, addI, subI, mul_eq, fdv_eq, fdv_64, fmd_eq, ne_eq, not_false_eq_true, Int.reduceEq, Nat.reduceLeDiff, Int.reduceAdd, Int.reduceNeg, Int.reduceLT, Int.reduceLE, Int.reduceSub, Nat.reduceEqDiff, Nat.reduceLT, p9, p15, p18, p20, p30, p6, negI, ltI, leI, gtI, geI, eqA_int, eqA_bl, neA_int, neA_bl, isBo, notBo, isNo, notNo, tupD, lstD, itemD, gcdD, gcd4D, intD, absD, lenD, listD, tupleD, penGet, penPut, Pen.get, Pen.put, bagGet, bagPut, Pen.bget, Pen.bput, objPut,
  isI_ins, at0, at1, at2, isiA_int, isiA_bl, isiA_non, isiA_str, isiA_tup, isiA_lst, ii_int, ii_bool, ib_int, ib_bool, in_int, is_int, it_int, il_int, it_tuple, nox_ret, nox_ok,
  List.map_cons, List.map_nil, List.length_cons, List.length_nil, List.cons_append, List.nil_append, List.append_nil, List.getElem?_cons_zero, List.getElem?_cons_succ, List.set_cons_zero, List.set_cons_succ, List.replicate_succ, List.replicate_zero, Nat.reduceSub, Nat.reduceAdd, if_true, if_false, decide_eq_true_eq, Bool.not_eq_true', Bool.true_eq_false, Bool.false_eq_true, reduceIte, decide_true, decide_false, Bool.not_true, Bool.not_false, ite_true, ite_false, List.length_map, and_true, true_and, and_false, false_and, and_self, or_true, true_or, or_false, false_or, not_true_eq_false, Bool.not_eq_false, Bool.not_eq_true, decide_eq_false_iff_not, Int.sub_self, beq_self_eq_true, Bool.and_self, Bool.true_and, Bool.and_true, Bool.and_false, Bool.false_and, *])
theorem take_ok (s : Pen) (many : Int) (h : 0 < many) (h9 : many.natAbs.log2 < 9000) : ∃ d s', m__law_take [.pen, .int many] s = .ok (.int d) s' ∧ 0 ≤ d ∧ d < many ∧ s'.obj = s.obj ∧ s'.ocls = s.ocls := Pn.take_ok s many h h9
theorem of_ok (s : Pen) (xs : List D) (h : 0 < xs.length) (hl : xs.length ≤ 1000) : ∃ d s', m__law_of [.pen, .lst xs] s = .ok d s' ∧ d ∈ xs ∧ s'.obj = s.obj ∧ s'.ocls = s.ocls := Pn.of_ok s xs h hl
end K02

set_option Elab.async false
set_option linter.all false
set_option maxRecDepth 100000
set_option maxHeartbeats 4000000
set_option autoImplicit false
namespace K02
open PySem L2 Tw
theorem nat0 : ((0 : Nat) : Int) = 0 := rfl
theorem eqL3 (a b c x y z : Int) : eqA (.lst [.int a, .int b, .int c]) (.lst [.int x, .int y, .int z]) = mret (.bl (decide (a = x ∧ b = y ∧ c = z))) := by
  have h := eqL [a, b, c] [x, y, z]
  simpa using h
theorem rng3 : rng1 [.int 3] = mret [.int 0, .int 1, .int 2] := rfl
local macro_rules | `(tactic| walk_at "sm") => `(tactic| first | assumption | exact Sm.lit200 (by decide) | (apply Sm.mul; walk_at "sm"; walk_at "sm") | (apply Sm.add2; walk_at "sm"; walk_at "sm") | (apply Sm.sub2; walk_at "sm"; walk_at "sm") | (apply Sm.neg; walk_at "sm"))
local macro_rules | `(tactic| walk_at "mo") => `(tactic| (apply mulOk_any; walk_at "sm"; walk_at "sm"; decide))
local macro_rules | `(tactic| walk_at "ds") => `(tactic| first | assumption | rfl | walk_at "mo" | decide | omega | grind)
local macro_rules | `(tactic| walk_at "tw") => `(tactic| simp (disch := walk_at "ds") only [mdef, startL, sseq, zNx, zIf, zRet, zRetN, zEx, zBk, zCt, zRaise, zRaiseN, sasg, spar, spar3, sof_ret, sof_ok, mret_ap, mbind_ap, obind_ok, mbind_ret, mbind_bad, kC, kOp, kUn, kB, kAnd, kOr, kNot, kAndV, kOrV, kNotV, kIf, kCh, aNil, aCons, kCall, kMk, kMkV, kCmS, kMeth, kProp, kFld, iL, iT, iR1, iR2, mvar, gnm, gtm, glm, gem, gcn, gnl, asB, asL, asT, int2, int2c, addIL, addI, subI, mul_eq, fdv_eq, fdv_64, fmd_eq, ne_eq, not_false_eq_true, Int.reduceEq, Nat.reduceLeDiff, Int.reduceAdd, Int.reduceNeg, Int.reduceLT, Int.reduceLE, Int.reduceSub, Nat.reduceEqDiff, Nat.reduceLT, p9, p15, p18, p20, p30, p6, negI, ltI, leI, gtI, geI, eqA_int, eqA_bl, neA_int, neA_bl, isBo, notBo, isNo, notNo, tupD, lstD, itemD, gcdD, gcd4D, intD, absD, lenD, listD, tupleD, penGet, penPut, Pen.get, Pen.put, bagGet, bagPut, Pen.bget, Pen.bput, objPut,
  isI_ins, at0, at1, at2, isiA_int, isiA_bl, isiA_non, isiA_str, isiA_tup, isiA_lst, ii_int, ii_bool, ib_int, ib_bool, in_int, is_int, it_int, il_int, it_tuple, nox_ret, nox_ok,
  List.map_cons, List.map_nil, List.length_cons, List.length_nil, List.cons_append, List.nil_append, List.append_nil, List.getElem?_cons_zero, List.getElem?_cons_succ, List.set_cons_zero, List.set_cons_succ, List.replicate_succ, List.replicate_zero, Nat.reduceSub, Nat.reduceAdd, if_true, if_false, decide_eq_true_eq, Bool.not_eq_true', Bool.true_eq_false, Bool.false_eq_true, reduceIte, decide_true, decide_false, Bool.not_true, Bool.not_false, ite_true, ite_false, List.length_map, and_true, true_and, and_false, false_and, and_self, or_true, true_or, or_false, false_or, not_true_eq_false, Bool.not_eq_false, Bool.not_eq_true, decide_eq_false_iff_not, Int.sub_self, beq_self_eq_true, Bool.and_self, Bool.true_and, Bool.and_true, Bool.and_false, Bool.false_and, sloop, cloop, kLc, wipeL, oneB, oeqB, notR, nat0, eqL3, rng3, eq_self, *])
abbrev fo (a b c : Int) : D := .ins 7 ["across", "up", "moment"] [.int a, .int b, .int c]
abbrev tri (a b c : Int) : D := .tup [.int a, .int b, .int c]
abbrev til (a b c : Int) : D := .lst [.int a, .int b, .int c]
theorem isnum_int (i : Int) : m_is_number [.int i] = mret (.bl true) := by
  funext s
  refine mdef_ret ?_
  unfold b_is_number
  walk_at "tw"
theorem lisnum_int (i : Int) : m__law_is_number [.int i] = mret (.bl true) := by
  funext s
  refine mdef_ret ?_
  unfold b__law_is_number
  walk_at "tw"
theorem mk_fo (a b c : Int) : mkD 7 m_Force___init__ [.int a, .int b, .int c] = mret (fo a b c) := by
  funext s
  have n1 := isnum_int a
  have n2 := isnum_int b
  have n3 := isnum_int c
  have e : m_Force___init__ [.self, .int a, .int b, .int c] { s with obj := [], ocls := 7 } = .ok .non { s with obj := [("across", .int a), ("up", .int b), ("moment", .int c)], ocls := 7 } := by
    unfold m_Force___init__ b_Force___init__ b_Force___init___0 b_Force___init___1 b_Force___init___2 b_Force___init___3 b_Force___init___4 b_Force___init___5
    walk_at "tw"
    rfl
  exact mkD_of rfl e
theorem f_across (a b c : Int) : fldD cf_across "across" (fo a b c) = mret (.int a) := rfl
theorem f_up (a b c : Int) : fldD cf_up "up" (fo a b c) = mret (.int b) := rfl
theorem f_moment (a b c : Int) : fldD cf_moment "moment" (fo a b c) = mret (.int c) := rfl
theorem is_fo (a b c : Int) : isiA ans [fo a b c, .cls 7] = mret (.bl true) := isiA_cls 7 rfl rfl
theorem add_fo (a b c x y z : Int) : ownX 7 m_Force___add__ (fo a b c) (fo x y z) = mret (fo (a + x) (b + y) (c + z)) := by
  funext s
  show m_Force___add__ [fo a b c, fo x y z] s = _
  refine mdef_ret ?_
  unfold b_Force___add__
  have e := mk_fo (a + x) (b + y) (c + z)
  have e1 := f_across
  have e2 := f_up
  have e3 := f_moment
  walk_at "tw"
theorem sub_fo (a b c x y z : Int) : ownX 7 m_Force___sub__ (fo a b c) (fo x y z) = mret (fo (a - x) (b - y) (c - z)) := by
  funext s
  show m_Force___sub__ [fo a b c, fo x y z] s = _
  refine mdef_ret ?_
  unfold b_Force___sub__
  have e := mk_fo (a - x) (b - y) (c - z)
  have e1 := f_across
  have e2 := f_up
  have e3 := f_moment
  walk_at "tw"
theorem neg_fo (a b c : Int) : ownN 7 m_Force___neg__ (fo a b c) = mret (fo (-a) (-b) (-c)) := by
  funext s
  show nox (m_Force___neg__ [fo a b c]) s = _
  have e0 : m_Force___neg__ [fo a b c] = mret (fo (-a) (-b) (-c)) := by
    funext s
    refine mdef_ret ?_
    unfold b_Force___neg__
    have e := mk_fo (-a) (-b) (-c)
    have e1 := f_across
    have e2 := f_up
    have e3 := f_moment
    walk_at "tw"
  rw [e0]; rfl
theorem mul_fo (a b c k : Int) (h1 : mulOk a k = true) (h2 : mulOk b k = true) (h3 : mulOk c k = true) : ownI 7 m_Force___mul__ (fo a b c) (.int k) = mret (fo (a * k) (b * k) (c * k)) := by
  funext s
  show nox (m_Force___mul__ [fo a b c, .int k]) s = _
  have e0 : m_Force___mul__ [fo a b c, .int k] = mret (fo (a * k) (b * k) (c * k)) := by
    funext s
    refine mdef_ret ?_
    unfold b_Force___mul__
    have e := mk_fo (a * k) (b * k) (c * k)
    have e1 := f_across
    have e2 := f_up
    have e3 := f_moment
    walk_at "tw"
  rw [e0]; rfl
theorem none_fo : m_Force_none [.cls 7] = mret (fo 0 0 0) := by
  funext s
  refine mdef_ret ?_
  unfold b_Force_none
  have e := mk_fo 0 0 0
  walk_at "tw"
theorem right_eq (a b c x y z : Int) (d : D) (hd : d = tri x y z ∨ d = til x y z) (h1 : a = x) (h2 : b = y) (h3 : c = z) : m__law_right [fo a b c, d] = mret (.bl true) := by
  subst h1 h2 h3
  funext s
  refine mdef_ret ?_
  unfold b__law_right b__law_right_0 b__law_right_1 b__law_right_2
  have e1 := f_across
  have e2 := f_up
  have e3 := f_moment
  have e4 := is_fo
  have n1 := lisnum_int
  rcases hd with rfl | rfl
  · walk_at "tw"
  · walk_at "tw"
theorem number_ok (s : Pen) : ∃ n s', m__law_number [.pen] s = .ok (.int n) s' ∧ Sm 110 n ∧ s'.obj = s.obj ∧ s'.ocls = s.ocls := by
  obtain ⟨w, s1, e1, h0, h1, q1, r1⟩ := take_ok s 8 (by decide) (by decide)
  by_cases w0 : w = 0
  · subst w0
    refine ⟨0, s1, mdef_ret ?_, by decide, q1, r1⟩
    unfold b__law_number b__law_number_0 b__law_number_1
    walk_at "tw"
  · by_cases w1 : w = 1
    · subst w1
      obtain ⟨d, s2, e2, hd, q2, r2⟩ := of_ok s1 [.int 1000000000000000000000000000000, .int (-1000000000000000000000000000000)] (by decide) (by decide)
      obtain ⟨t, s3, e3, t0, t1, q3, r3⟩ := take_ok s2 7 (by decide) (by decide)
      obtain ⟨i, rfl, hi⟩ : ∃ i : Int, d = .int i ∧ (i = 1000000000000000000000000000000 ∨ i = -1000000000000000000000000000000) := by
        rcases List.mem_cons.mp hd with rfl | hd
        · exact ⟨_, rfl, .inl rfl⟩
        · rcases List.mem_cons.mp hd with rfl | hd
          · exact ⟨_, rfl, .inr rfl⟩
          · cases hd
      refine ⟨i + t - 3, s3, mdef_ret ?_, by unfold Sm; omega, by rw [q3, q2, q1], by rw [r3, r2, r1]⟩
      unfold b__law_number b__law_number_0 b__law_number_1 b__law_number_2
      walk_at "tw"
    · by_cases w2 : w = 2
      · subst w2
        obtain ⟨d, s2, e2, d0, d1, q2, r2⟩ := take_ok s1 2000000001 (by decide) (by decide)
        refine ⟨d - 1000000000, s2, mdef_ret ?_, by unfold Sm; omega, by rw [q2, q1], by rw [r2, r1]⟩
        unfold b__law_number b__law_number_0 b__law_number_1 b__law_number_2 b__law_number_3
        have hm : mulI (.int 2) (.int 1000000000) = mret (.int 2000000000) := rfl
        walk_at "tw"
      · obtain ⟨d, s2, e2, d0, d1, q2, r2⟩ := take_ok s1 41 (by decide) (by decide)
        refine ⟨d - 20, s2, mdef_ret ?_, by unfold Sm; omega, by rw [q2, q1], by rw [r2, r1]⟩
        unfold b__law_number b__law_number_0 b__law_number_1 b__law_number_2 b__law_number_3 b__law_number_4
        walk_at "tw"
theorem numbers_ok (s : Pen) : ∃ a b c s', m__law_numbers [.pen] s = .ok (tri a b c) s' ∧ Sm 110 a ∧ Sm 110 b ∧ Sm 110 c := by
  obtain ⟨a, s1, e1, ha, _⟩ := number_ok s
  obtain ⟨b, s2, e2, hb, _⟩ := number_ok s1
  obtain ⟨c, s3, e3, hc, _⟩ := number_ok s2
  refine ⟨a, b, c, s3, mdef_ret ?_, ha, hb, hc⟩
  unfold b__law_numbers
  walk_at "tw"
theorem isnone_fo (a b c : Int) : nox (m_Force_is_none [fo a b c]) = mret (.bl (decide (a = 0 ∧ b = 0 ∧ c = 0))) := by
  have e0 : m_Force_is_none [fo a b c] = mret (.bl (decide (a = 0 ∧ b = 0 ∧ c = 0))) := by
    funext s
    refine mdef_ret ?_
    unfold b_Force_is_none
    have e1 := f_across
    have e2 := f_up
    have e3 := f_moment
    by_cases h1 : a = 0 <;> by_cases h2 : b = 0 <;> by_cases h3 : c = 0 <;> walk_at "tw"
  rw [e0]; rfl
theorem moment_ok (a b c x y : Int) (h1 : mulOk x b = true) (h2 : mulOk y a = true) : m__law_moment [tri a b c, .tup [.int x, .int y]] = mret (.int (c - x * b + y * a)) := by
  funext s
  refine mdef_ret ?_
  unfold b__law_moment
  walk_at "tw"
end K02

set_option Elab.async false
set_option linter.all false
set_option maxRecDepth 100000
set_option maxHeartbeats 4000000
set_option autoImplicit false
namespace K02
open PySem L2 Tw
theorem nox_none : nox (m_Force_none [.cls 7]) = mret (fo 0 0 0) := by rw [none_fo]; rfl
theorem add3 (a b c x y z : Int) (x2 x3 x4 x5 x6 x7 x8 x9 : Option D) : kLc (iR1 (aCons (kC (.int 3)) aNil)) (gnm 8) (fun _ => mret true) (kOp addIL (kOp itemD (mvar 0) (mvar 8)) (kOp itemD (mvar 1) (mvar 8))) [8] [some (tri a b c), some (tri x y z), x2, x3, x4, x5, x6, x7, x8, x9] = mret (til (a + x) (b + y) (c + z)) := by
  funext s; rfl
theorem sub3 (a b c x y z : Int) (x2 x3 x4 x5 x6 x7 x8 x9 : Option D) : kLc (iR1 (aCons (kC (.int 3)) aNil)) (gnm 8) (fun _ => mret true) (kOp (int2 fun i j => .int (i - j)) (kOp itemD (mvar 0) (mvar 8)) (kOp itemD (mvar 1) (mvar 8))) [8] [some (tri a b c), some (tri x y z), x2, x3, x4, x5, x6, x7, x8, x9] = mret (til (a - x) (b - y) (c - z)) := by
  funext s; rfl
theorem mo0 (a : Int) : mulOk a 0 = true := mulOk_r (by decide)
theorem mul0_fo (a b c : Int) : ownI 7 m_Force___mul__ (fo a b c) (.int 0) = mret (fo 0 0 0) := by
  have h := mul_fo a b c 0 (mo0 a) (mo0 b) (mo0 c)
  rw [Int.mul_zero, Int.mul_zero, Int.mul_zero] at h
  exact h
theorem addn_fo (a b c : Int) : ownX 7 m_Force___add__ (fo a b c) (fo 0 0 0) = mret (fo a b c) := by
  have h := add_fo a b c 0 0 0
  rw [Int.add_zero, Int.add_zero, Int.add_zero] at h
  exact h
theorem subs_fo (a b c : Int) : ownX 7 m_Force___sub__ (fo a b c) (fo a b c) = mret (fo 0 0 0) := by
  have h := sub_fo a b c a b c
  rw [Int.sub_self, Int.sub_self, Int.sub_self] at h
  exact h
section
local macro_rules | `(tactic| walk_at "sm") => `(tactic| first | assumption | exact Sm.lit200 (by decide) | (apply Sm.mul; walk_at "sm"; walk_at "sm") | (apply Sm.add2; walk_at "sm"; walk_at "sm") | (apply Sm.sub2; walk_at "sm"; walk_at "sm") | (apply Sm.neg; walk_at "sm"))
local macro_rules | `(tactic| walk_at "mo") => `(tactic| (apply mulOk_any; walk_at "sm"; walk_at "sm"; decide))
local macro_rules | `(tactic| walk_at "ds") => `(tactic| first | assumption | rfl | walk_at "mo" | decide | omega)
local macro_rules | `(tactic| walk_at "tw") => `(tactic| simp (disch := walk_at "ds") only [mdef, startL, sseq, zNx, zIf, zRet, zRetN, zEx, zBk, zCt, zRaise, zRaiseN, sasg, spar, spar3, sof_ret, sof_ok, mret_ap, mbind_ap, obind_ok, mbind_ret, mbind_bad, kC, kOp, kUn, kB, kAnd, kOr, kNot, kAndV, kOrV, kNotV, kIf, kCh, aNil, aCons, kCall, kMk, kMkV, kCmS, kMeth, kProp, kFld, iL, iT, iR1, iR2, mvar, gnm, gtm, glm, gem, gcn, gnl, asB, asL, asT, int2, int2c, addIL, addI, subI, mul_eq, fdv_eq, fdv_64, fmd_eq, ne_eq, not_false_eq_true, Int.reduceEq, Nat.reduceLeDiff, Int.reduceAdd, Int.reduceNeg, Int.reduceLT, Int.reduceLE, Int.reduceSub, Nat.reduceEqDiff, Nat.reduceLT, p9, p15, p18, p20, p30, p6, negI, ltI, leI, gtI, geI, eqA_int, eqA_bl, neA_int, neA_bl, isBo, notBo, isNo, notNo, tupD, lstD, itemD, gcdD, gcd4D, intD, absD, lenD, listD, tupleD, penGet, penPut, Pen.get, Pen.put, bagGet, bagPut, Pen.bget, Pen.bput, objPut,
  isI_ins, at0, at1, at2, isiA_int, isiA_bl, isiA_non, isiA_str, isiA_tup, isiA_lst, ii_int, ii_bool, ib_int, ib_bool, in_int, is_int, it_int, il_int, it_tuple, nox_ret,
  List.map_cons, List.map_nil, List.length_cons, List.length_nil, List.cons_append, List.nil_append, List.append_nil, List.getElem?_cons_zero, List.getElem?_cons_succ, List.set_cons_zero, List.set_cons_succ, List.replicate_succ, List.replicate_zero, Nat.reduceSub, Nat.reduceAdd, if_true, if_false, decide_eq_true_eq, Bool.not_eq_true', Bool.true_eq_false, Bool.false_eq_true, reduceIte, decide_true, decide_false, Bool.not_true, Bool.not_false, ite_true, ite_false, List.length_map, and_true, true_and, and_false, false_and, and_self, or_true, true_or, or_false, false_or, not_true_eq_false, Bool.not_eq_false, Bool.not_eq_true, decide_eq_false_iff_not, Int.sub_self, beq_self_eq_true, Bool.and_self, Bool.true_and, Bool.and_true, Bool.and_false, Bool.false_and, sloop, cloop, wipeL, eqL3, eq_self, mk_fo, f_across, f_up, f_moment, is_fo, add_fo, sub_fo, neg_fo, isnone_fo, none_fo, nox_none, catL, add3, sub3, *])
theorem line_ok (p q r : Int) (n : D) (hn : n = tri p q r ∨ n = til p q r) (x0 x1 x2 x3 x4 x5 x8 x9 : Option D) (s : Pen) :
    lb__law_signs_0 [x0, x1, x2, x3, x4, x5, some (fo p q r), some n, x8, x9] s = .nx [x0, x1, x2, x3, x4, x5, some (fo p q r), some n, x8, x9] s := by
  have h := right_eq p q r p q r n hn rfl rfl rfl
  unfold lb__law_signs_0
  rcases hn with rfl | rfl
  · walk_at "tw"
  · walk_at "tw"
theorem signs0 (a b c x y z k : Int) (s : Pen) : b__law_signs_0 [some (tri a b c), some (tri x y z), some (.int k), none, none, none, none, none, none, none] s =
    .nx [some (tri a b c), some (tri x y z), some (.int k), none, some (fo a b c), some (fo x y z), none, none, none, none] s := by
  unfold b__law_signs_0
  walk_at "tw"
theorem signs1 (a b c x y z k : Int) (s : Pen) : b__law_signs_1 [some (tri a b c), some (tri x y z), some (.int k), none, some (fo a b c), some (fo x y z), none, none, none, none] s =
    .nx [some (tri a b c), some (tri x y z), some (.int k), some (.lst [.tup [fo (a + x) (b + y) (c + z), til (a + x) (b + y) (c + z)], .tup [fo (a - x) (b - y) (c - z), til (a - x) (b - y) (c - z)]]), some (fo a b c), some (fo x y z), none, none, none, none] s := by
  unfold b__law_signs_1
  walk_at "tw"
end
section
local macro_rules | `(tactic| walk_at "sm") => `(tactic| first | assumption | exact Sm.lit200 (by decide) | (apply Sm.mul; walk_at "sm"; walk_at "sm") | (apply Sm.add2; walk_at "sm"; walk_at "sm") | (apply Sm.sub2; walk_at "sm"; walk_at "sm") | (apply Sm.neg; walk_at "sm"))
local macro_rules | `(tactic| walk_at "mo") => `(tactic| (apply mulOk_any; walk_at "sm"; walk_at "sm"; decide))
local macro_rules | `(tactic| walk_at "ds") => `(tactic| first | assumption | rfl | walk_at "mo" | decide | omega)
local macro_rules | `(tactic| walk_at "tw") => `(tactic| simp (disch := walk_at "ds") only [mdef, startL, sseq, zNx, zIf, zRet, zRetN, zEx, zBk, zCt, zRaise, zRaiseN, sasg, spar, spar3, sof_ret, sof_ok, mret_ap, mbind_ap, obind_ok, mbind_ret, mbind_bad, kC, kOp, kUn, kB, kAnd, kOr, kNot, kAndV, kOrV, kNotV, kIf, kCh, aNil, aCons, kCall, kMk, kMkV, kCmS, kMeth, kProp, kFld, iL, iT, iR1, iR2, mvar, gnm, gtm, glm, gem, gcn, gnl, asB, asL, asT, int2, int2c, addIL, addI, subI, mul_eq, fdv_eq, fdv_64, fmd_eq, ne_eq, not_false_eq_true, Int.reduceEq, Nat.reduceLeDiff, Int.reduceAdd, Int.reduceNeg, Int.reduceLT, Int.reduceLE, Int.reduceSub, Nat.reduceEqDiff, Nat.reduceLT, p9, p15, p18, p20, p30, p6, negI, ltI, leI, gtI, geI, eqA_int, eqA_bl, neA_int, neA_bl, isBo, notBo, isNo, notNo, tupD, lstD, itemD, gcdD, gcd4D, intD, absD, lenD, listD, tupleD, penGet, penPut, Pen.get, Pen.put, bagGet, bagPut, Pen.bget, Pen.bput, objPut,
  isI_ins, at0, at1, at2, isiA_int, isiA_bl, isiA_non, isiA_str, isiA_tup, isiA_lst, ii_int, ii_bool, ib_int, ib_bool, in_int, is_int, it_int, il_int, it_tuple, nox_ret,
  List.map_cons, List.map_nil, List.length_cons, List.length_nil, List.cons_append, List.nil_append, List.append_nil, List.getElem?_cons_zero, List.getElem?_cons_succ, List.set_cons_zero, List.set_cons_succ, List.replicate_succ, List.replicate_zero, Nat.reduceSub, Nat.reduceAdd, if_true, if_false, decide_eq_true_eq, Bool.not_eq_true', Bool.true_eq_false, Bool.false_eq_true, reduceIte, decide_true, decide_false, Bool.not_true, Bool.not_false, ite_true, ite_false, List.length_map, and_true, true_and, and_false, false_and, and_self, or_true, true_or, or_false, false_or, not_true_eq_false, Bool.not_eq_false, Bool.not_eq_true, decide_eq_false_iff_not, Int.sub_self, beq_self_eq_true, Bool.and_self, Bool.true_and, Bool.and_true, Bool.and_false, Bool.false_and, sloop, cloop, kLc, wipeL, eqL3, eq_self, mk_fo, f_across, f_up, f_moment, is_fo, add_fo, sub_fo, neg_fo, isnone_fo, none_fo, nox_none, catL, *])
theorem signs2 (a b c x y z k : Int) (s : Pen) (h1 : mulOk x k = true) (h2 : mulOk y k = true) (h3 : mulOk z k = true) (ds : List D) (hl : ds.length < 1000) : b__law_signs_2 [some (tri a b c), some (tri x y z), some (.int k), some (.lst ds), some (fo a b c), some (fo x y z), none, none, none, none] s =
    .nx [some (tri a b c), some (tri x y z), some (.int k), some (.lst (ds ++ [.tup [fo (-a) (-b) (-c), til (-a) (-b) (-c)], .tup [fo (x * k) (y * k) (z * k), til (x * k) (y * k) (z * k)]])), some (fo a b c), some (fo x y z), none, none, none, none] s := by
  unfold b__law_signs_2
  have m := mul_fo x y z k h1 h2 h3
  walk_at "tw"
  have hl2 : ds.length ≤ 99998 := by omega
  simp only [hl2, if_true, mret_ap, sof_ok, sof_ret]
end
section
local macro_rules | `(tactic| walk_at "sm") => `(tactic| first | assumption | exact Sm.lit200 (by decide) | (apply Sm.mul; walk_at "sm"; walk_at "sm") | (apply Sm.add2; walk_at "sm"; walk_at "sm") | (apply Sm.sub2; walk_at "sm"; walk_at "sm") | (apply Sm.neg; walk_at "sm"))
local macro_rules | `(tactic| walk_at "mo") => `(tactic| (apply mulOk_any; walk_at "sm"; walk_at "sm"; decide))
local macro_rules | `(tactic| walk_at "ds") => `(tactic| first | assumption | rfl | walk_at "mo" | decide | omega)
local macro_rules | `(tactic| walk_at "tw") => `(tactic| simp (disch := walk_at "ds") only [mdef, startL, sseq, zNx, zIf, zRet, zRetN, zEx, zBk, zCt, zRaise, zRaiseN, sasg, spar, spar3, sof_ret, sof_ok, mret_ap, mbind_ap, obind_ok, mbind_ret, mbind_bad, kC, kOp, kUn, kB, kAnd, kOr, kNot, kAndV, kOrV, kNotV, kIf, kCh, aNil, aCons, kCall, kMk, kMkV, kCmS, kMeth, kProp, kFld, iL, iT, iR1, iR2, mvar, gnm, gtm, glm, gem, gcn, gnl, asB, asL, asT, int2, int2c, addIL, addI, subI, mul_eq, fdv_eq, fdv_64, fmd_eq, ne_eq, not_false_eq_true, Int.reduceEq, Nat.reduceLeDiff, Int.reduceAdd, Int.reduceNeg, Int.reduceLT, Int.reduceLE, Int.reduceSub, Nat.reduceEqDiff, Nat.reduceLT, p9, p15, p18, p20, p30, p6, negI, ltI, leI, gtI, geI, eqA_int, eqA_bl, neA_int, neA_bl, isBo, notBo, isNo, notNo, tupD, lstD, itemD, gcdD, gcd4D, intD, absD, lenD, listD, tupleD, penGet, penPut, Pen.get, Pen.put, bagGet, bagPut, Pen.bget, Pen.bput, objPut,
  isI_ins, at0, at1, at2, isiA_int, isiA_bl, isiA_non, isiA_str, isiA_tup, isiA_lst, ii_int, ii_bool, ib_int, ib_bool, in_int, is_int, it_int, il_int, it_tuple, nox_ret,
  List.map_cons, List.map_nil, List.length_cons, List.length_nil, List.cons_append, List.nil_append, List.append_nil, List.getElem?_cons_zero, List.getElem?_cons_succ, List.set_cons_zero, List.set_cons_succ, List.replicate_succ, List.replicate_zero, Nat.reduceSub, Nat.reduceAdd, if_true, if_false, decide_eq_true_eq, Bool.not_eq_true', Bool.true_eq_false, Bool.false_eq_true, reduceIte, decide_true, decide_false, Bool.not_true, Bool.not_false, ite_true, ite_false, List.length_map, and_true, true_and, and_false, false_and, and_self, or_true, true_or, or_false, false_or, not_true_eq_false, Bool.not_eq_false, Bool.not_eq_true, decide_eq_false_iff_not, Int.sub_self, beq_self_eq_true, Bool.and_self, Bool.true_and, Bool.and_true, Bool.and_false, Bool.false_and, mul0_fo, addn_fo, subs_fo, none_fo, nox_none, catL, *])
theorem signs3 (a b c x y z k : Int) (s : Pen) (ds : List D) (hl : ds.length < 1000) : b__law_signs_3 [some (tri a b c), some (tri x y z), some (.int k), some (.lst ds), some (fo a b c), some (fo x y z), none, none, none, none] s =
    .nx [some (tri a b c), some (tri x y z), some (.int k), some (.lst (ds ++ [.tup [fo 0 0 0, til 0 0 0], .tup [fo a b c, tri a b c], .tup [fo 0 0 0, til 0 0 0]])), some (fo a b c), some (fo x y z), none, none, none, none] s := by
  unfold b__law_signs_3
  walk_at "tw"
  have hl2 : ds.length ≤ 99997 := by omega
  simp only [hl2, if_true, mret_ap, sof_ok, sof_ret]
end
/-- a force and its numbers -/
def Pr (d : D) : Prop := ∃ p q r n, d = .tup [fo p q r, n] ∧ (n = tri p q r ∨ n = til p q r)
theorem loop_ok (x0 x1 x2 x3 x4 x5 : Option D) (ds : List D) (h : ∀ d ∈ ds, Pr d) (s : Pen) : ∃ y6 y7 y8 y9, sloop (gtm 2 (gcn (gnm 6) (gcn (gnm 7) gnl))) lb__law_signs_0 ds [x0, x1, x2, x3, x4, x5, none, none, none, none] s = .nx [x0, x1, x2, x3, x4, x5, y6, y7, y8, y9] s := by
  obtain ⟨ρ', e, y6, y7, y8, y9, rfl⟩ := sloop_all (gm := gtm 2 (gcn (gnm 6) (gcn (gnm 7) gnl))) (mb := lb__law_signs_0) (s := s) (fun ρ => ∃ y6 y7 y8 y9, ρ = [x0, x1, x2, x3, x4, x5, y6, y7, y8, y9]) ds [x0, x1, x2, x3, x4, x5, none, none, none, none] ⟨_, _, _, _, rfl⟩ (fun d hd ρ hρ => by
    obtain ⟨y6, y7, y8, y9, rfl⟩ := hρ
    obtain ⟨p, q, r, n, rfl, hn⟩ := h d hd
    exact ⟨[x0, x1, x2, x3, x4, x5, some (fo p q r), some n, y8, y9], _, rfl, line_ok p q r n hn x0 x1 x2 x3 x4 x5 y8 y9 s, _, _, _, _, rfl⟩)
  exact ⟨y6, y7, y8, y9, e⟩
section
local macro_rules | `(tactic| walk_at "sm") => `(tactic| first | assumption | exact Sm.lit200 (by decide) | (apply Sm.mul; walk_at "sm"; walk_at "sm") | (apply Sm.add2; walk_at "sm"; walk_at "sm") | (apply Sm.sub2; walk_at "sm"; walk_at "sm") | (apply Sm.neg; walk_at "sm"))
local macro_rules | `(tactic| walk_at "mo") => `(tactic| (apply mulOk_any; walk_at "sm"; walk_at "sm"; decide))
local macro_rules | `(tactic| walk_at "ds") => `(tactic| first | assumption | rfl | walk_at "mo" | decide | omega)
local macro_rules | `(tactic| walk_at "tw") => `(tactic| simp (disch := walk_at "ds") only [mdef, startL, sseq, zNx, zIf, zRet, zRetN, zEx, zBk, zCt, zRaise, zRaiseN, sasg, spar, spar3, sof_ret, sof_ok, mret_ap, mbind_ap, obind_ok, mbind_ret, mbind_bad, kC, kOp, kUn, kB, kAnd, kOr, kNot, kAndV, kOrV, kNotV, kIf, kCh, aNil, aCons, kCall, kMk, kMkV, kCmS, kMeth, kProp, kFld, iL, iT, iR1, iR2, mvar, gnm, gtm, glm, gem, gcn, gnl, asB, asL, asT, int2, int2c, addIL, addI, subI, mul_eq, fdv_eq, fdv_64, fmd_eq, ne_eq, not_false_eq_true, Int.reduceEq, Nat.reduceLeDiff, Int.reduceAdd, Int.reduceNeg, Int.reduceLT, Int.reduceLE, Int.reduceSub, Nat.reduceEqDiff, Nat.reduceLT, p9, p15, p18, p20, p30, p6, negI, ltI, leI, gtI, geI, eqA_int, eqA_bl, neA_int, neA_bl, isBo, notBo, isNo, notNo, tupD, lstD, itemD, gcdD, gcd4D, intD, absD, lenD, listD, tupleD, penGet, penPut, Pen.get, Pen.put, bagGet, bagPut, Pen.bget, Pen.bput, objPut,
  isI_ins, at0, at1, at2, isiA_int, isiA_bl, isiA_non, isiA_str, isiA_tup, isiA_lst, ii_int, ii_bool, ib_int, ib_bool, in_int, is_int, it_int, il_int, it_tuple, nox_ret,
  List.map_cons, List.map_nil, List.length_cons, List.length_nil, List.cons_append, List.nil_append, List.append_nil, List.getElem?_cons_zero, List.getElem?_cons_succ, List.set_cons_zero, List.set_cons_succ, List.replicate_succ, List.replicate_zero, Nat.reduceSub, Nat.reduceAdd, if_true, if_false, decide_eq_true_eq, Bool.not_eq_true', Bool.true_eq_false, Bool.false_eq_true, reduceIte, decide_true, decide_false, Bool.not_true, Bool.not_false, ite_true, ite_false, List.length_map, and_true, true_and, and_false, false_and, and_self, or_true, true_or, or_false, false_or, not_true_eq_false, Bool.not_eq_false, Bool.not_eq_true, decide_eq_false_iff_not, Int.sub_self, beq_self_eq_true, Bool.and_self, Bool.true_and, Bool.and_true, Bool.and_false, Bool.false_and, eqL3, eq_self, isnone_fo, *])
theorem signs5 (a b c x y z : Int) (x2 x3 y6 y7 y8 y9 : Option D) (s : Pen) : b__law_signs_5 [some (tri a b c), some (tri x y z), x2, x3, some (fo a b c), some (fo x y z), y6, y7, y8, y9] s = .ret (.bl true) s := by
  unfold b__law_signs_5
  have h1 := right_eq a b c a b c (tri a b c) (.inl rfl) rfl rfl rfl
  have h2 := right_eq x y z x y z (tri x y z) (.inl rfl) rfl rfl rfl
  walk_at "tw"
theorem signs_ok (a b c x y z k : Int) (h1 : mulOk x k = true) (h2 : mulOk y k = true) (h3 : mulOk z k = true) : m__law_signs [tri a b c, tri x y z, .int k] = mret (.bl true) := by
  funext s
  refine mdef_ret ?_
  show sseq b__law_signs_0 _ [some (tri a b c), some (tri x y z), some (.int k), none, none, none, none, none, none, none] s = _
  rw [sseq_nx (signs0 a b c x y z k s), sseq_nx (signs1 a b c x y z k s), sseq_nx (signs2 a b c x y z k s h1 h2 h3 _ (by simp)), sseq_nx (signs3 a b c x y z k s _ (by simp))]
  have key : ∀ ds : List D, (∀ d ∈ ds, Pr d) → sseq b__law_signs_4 b__law_signs_5 [some (tri a b c), some (tri x y z), some (.int k), some (.lst ds), some (fo a b c), some (fo x y z), none, none, none, none] s = .ret (.bl true) s := fun ds hd => by
    obtain ⟨y6, y7, y8, y9, e⟩ := loop_ok (some (tri a b c)) (some (tri x y z)) (some (.int k)) (some (.lst ds)) (some (fo a b c)) (some (fo x y z)) ds hd s
    have e4 : b__law_signs_4 [some (tri a b c), some (tri x y z), some (.int k), some (.lst ds), some (fo a b c), some (fo x y z), none, none, none, none] s = .nx [some (tri a b c), some (tri x y z), some (.int k), some (.lst ds), some (fo a b c), some (fo x y z), y6, y7, y8, y9] s := e
    rw [sseq_nx e4]
    exact signs5 ..
  refine key _ fun d hd => ?_
  simp only [List.cons_append, List.nil_append, List.mem_cons, List.not_mem_nil, or_false] at hd
  rcases hd with rfl | rfl | rfl | rfl | rfl | rfl | rfl
  · exact ⟨_, _, _, _, rfl, .inr rfl⟩
  · exact ⟨_, _, _, _, rfl, .inr rfl⟩
  · exact ⟨_, _, _, _, rfl, .inr rfl⟩
  · exact ⟨_, _, _, _, rfl, .inr rfl⟩
  · exact ⟨_, _, _, _, rfl, .inr rfl⟩
  · exact ⟨_, _, _, _, rfl, .inl rfl⟩
  · exact ⟨_, _, _, _, rfl, .inr rfl⟩
end
end K02

set_option Elab.async false
set_option linter.all false
set_option maxRecDepth 100000
set_option maxHeartbeats 4000000
set_option autoImplicit false
namespace K02
open PySem L2 Tw
theorem nat1 : ((1 : Nat) : Int) = 1 := rfl
local macro_rules | `(tactic| walk_at "sm") => `(tactic| first | assumption | exact Sm.lit200 (by decide) | (apply Sm.mul; walk_at "sm"; walk_at "sm") | (apply Sm.add2; walk_at "sm"; walk_at "sm") | (apply Sm.sub2; walk_at "sm"; walk_at "sm") | (apply Sm.neg; walk_at "sm"))
local macro_rules | `(tactic| walk_at "mo") => `(tactic| (apply mulOk_any; walk_at "sm"; walk_at "sm"; decide))
local macro_rules | `(tactic| walk_at "ds") => `(tactic| first | assumption | rfl | walk_at "mo" | decide | omega)
local macro_rules | `(tactic| walk_at "tw") => `(tactic| simp (disch := walk_at "ds") only [mdef, startL, sseq, zNx, zIf, zRet, zRetN, zEx, zBk, zCt, zRaise, zRaiseN, sasg, spar, spar3, sof_ret, sof_ok, mret_ap, mbind_ap, obind_ok, mbind_ret, mbind_bad, kC, kOp, kUn, kB, kAnd, kOr, kNot, kAndV, kOrV, kNotV, kIf, kCh, aNil, aCons, kCall, kMk, kMkV, kCmS, kMeth, kProp, kFld, iL, iT, iR1, iR2, mvar, gnm, gtm, glm, gem, gcn, gnl, asB, asL, asT, int2, int2c, addIL, addI, subI, mul_eq, fdv_eq, fdv_64, fmd_eq, ne_eq, not_false_eq_true, Int.reduceEq, Nat.reduceLeDiff, Int.reduceAdd, Int.reduceNeg, Int.reduceLT, Int.reduceLE, Int.reduceSub, Nat.reduceEqDiff, Nat.reduceLT, p9, p15, p18, p20, p30, p6, negI, ltI, leI, gtI, geI, eqA_int, eqA_bl, neA_int, neA_bl, isBo, notBo, isNo, notNo, tupD, lstD, itemD, gcdD, gcd4D, intD, absD, lenD, listD, tupleD, penGet, penPut, Pen.get, Pen.put, bagGet, bagPut, Pen.bget, Pen.bput, objPut,
  isI_ins, at0, at1, at2, isiA_int, isiA_bl, isiA_non, isiA_str, isiA_tup, isiA_lst, ii_int, ii_bool, ib_int, ib_bool, in_int, is_int, it_int, il_int, it_tuple, nox_ret,
  List.map_cons, List.map_nil, List.length_cons, List.length_nil, List.cons_append, List.nil_append, List.append_nil, List.getElem?_cons_zero, List.getElem?_cons_succ, List.set_cons_zero, List.set_cons_succ, List.replicate_succ, List.replicate_zero, Nat.reduceSub, Nat.reduceAdd, if_true, if_false, decide_eq_true_eq, Bool.not_eq_true', Bool.true_eq_false, Bool.false_eq_true, reduceIte, decide_true, decide_false, Bool.not_true, Bool.not_false, ite_true, ite_false, List.length_map, and_true, true_and, and_false, false_and, and_self, or_true, true_or, or_false, false_or, not_true_eq_false, Bool.not_eq_false, Bool.not_eq_true, decide_eq_false_iff_not, Int.sub_self, beq_self_eq_true, Bool.and_self, Bool.true_and, Bool.and_true, Bool.and_false, Bool.false_and, eqL3, eq_self, mk_fo, f_across, f_up, f_moment, is_fo, nat1, Int.fdiv_one, *])
abbrev ld (a b c : Int) : D := .ins 8 ["forces"] [.tup [fo a b c]]
abbrev th (a b c p : Int) : D := .ins 9 ["force", "parts"] [fo a b c, .int p]
theorem eq_raw (a b c x y z : Int) : m_Force___eq__ [fo a b c, fo x y z] = mret (.bl (decide (a = x ∧ b = y ∧ c = z))) := by
  funext s
  refine mdef_ret ?_
  unfold b_Force___eq__
  by_cases h1 : a = x <;> by_cases h2 : b = y <;> by_cases h3 : c = z <;> walk_at "tw"
theorem eq_fo (a b c x y z : Int) : oeqB 7 nf_Force m_Force___eq__ (fo a b c) (fo x y z) = mret (.bl (decide (a = x ∧ b = y ∧ c = z))) := by
  show nox (m_Force___eq__ [fo a b c, fo x y z]) = _
  rw [eq_raw]; rfl
theorem ne_fo (a b c x y z : Int) : oneB 7 nf_Force m_Force___eq__ (fo a b c) (fo x y z) = mret (.bl (!decide (a = x ∧ b = y ∧ c = z))) := by
  show mbind (nox (m_Force___eq__ [fo a b c, fo x y z])) notR = _
  rw [eq_raw]; rfl
theorem eq_no (a b c : Int) (d : D) (t : String ⊕ Nat) (ht : tyTag d = some t) (hn : nf_Force t = true) (h : isiA ans [d, .cls 7] = mret (.bl false)) : oeqB 7 nf_Force m_Force___eq__ (fo a b c) d = mret (.bl false) := by
  have e0 : m_Force___eq__ [fo a b c, d] = mret (.bl false) := by
    funext s
    refine mdef_ret ?_
    unfold b_Force___eq__
    walk_at "tw"
  show (match tyTag d with
    | some t => if ((7 : Nat) == 7 && nf_Force t) = true then nox (m_Force___eq__ [fo a b c, d]) else mbad
    | none => mbad) = _
  rw [ht]
  dsimp only
  rw [hn, e0]
  rfl
theorem isrow1 (d : D) : m_is_row [.lst [d], .int 1, .int 8] = mret (.bl true) := by
  funext s
  refine mdef_ret ?_
  unfold b_is_row
  have h : isiT ans [.lst [d], .tup [.ty "list", .ty "tuple"]] = mret (.bl true) := rfl
  walk_at "tw"
theorem isnum1 (i : Int) : m_is_number [.int i] = mret (.bl true) := isnum_int i
theorem mk_ld (a b c : Int) : mkD 8 m_Load___init__ [.lst [fo a b c]] = mret (ld a b c) := by
  funext s
  have e : m_Load___init__ [.self, .lst [fo a b c]] { s with obj := [], ocls := 8 } = .ok .non { s with obj := [("forces", .tup [fo a b c])], ocls := 8 } := by
    unfold m_Load___init__ b_Load___init__ b_Load___init___0 b_Load___init___1 b_Load___init___2
    have r := isrow1 (fo a b c)
    have l : kLc (iL (mvar 1)) (gnm 2) (fun _ => mret true) (kCall (isiA ans) (aCons (mvar 2) (aCons (kC (.cls 7)) aNil))) [2] [some .self, some (.lst [fo a b c]), none] = mret (.lst [.bl true]) := by
      funext s; rfl
    have al : allD [.lst [.bl true]] = mret (.bl true) := rfl
    walk_at "tw"
    rfl
  exact mkD_of rfl e
theorem gcd41 (a b c : Int) : gcd4D [.int a, .int b, .int c, .int 1] = mret (D.int 1) := by
  show mret (D.int ((((a.natAbs.gcd b.natAbs).gcd c.natAbs).gcd 1 : Nat) : Int)) = _
  rw [Nat.gcd_one_right]; rfl
theorem fdv1 (x : Int) : fdvI (.int x) (.int 1) = mret (.int x) := by
  have h := fdv_eq (i := x) (j := 1) (by decide) (by decide)
  rw [Int.fdiv_one] at h
  exact h
theorem mk_th1 (a b c : Int) : mkD 9 m_Thrust___init__ [fo a b c, .int 1] = mret (th a b c 1) := by
  funext s
  have e : m_Thrust___init__ [.self, fo a b c, .int 1] { s with obj := [], ocls := 9 } = .ok .non { s with obj := [("force", fo a b c), ("parts", .int 1)], ocls := 9 } := by
    have e0 : b_Thrust___init___0 [some .self, some (fo a b c), some (.int 1), none] { s with obj := [], ocls := 9 } = .nx [some .self, some (fo a b c), some (.int 1), none] { s with obj := [], ocls := 9 } := by
      unfold b_Thrust___init___0
      have n1 := isnum_int 1
      walk_at "tw"
    have e1 : b_Thrust___init___1 [some .self, some (fo a b c), some (.int 1), none] { s with obj := [], ocls := 9 } = .nx [some .self, some (fo a b c), some (.int 1), some (.int 1)] { s with obj := [], ocls := 9 } := by
      unfold b_Thrust___init___1
      simp only [sasg, kCall, aCons, aNil, kFld, mvar, mbind_ret, f_across, f_up, f_moment, gcd41, sof_ret, gnm, List.getElem?_cons_succ, List.getElem?_cons_zero, List.set_cons_succ, List.set_cons_zero]
    have e2 : b_Thrust___init___2 [some .self, some (fo a b c), some (.int 1), some (.int 1)] { s with obj := [], ocls := 9 } = .nx [some .self, some (fo a b c), some (.int 1), some (.int 1)] { s with obj := [("force", fo a b c)], ocls := 9 } := by
      unfold b_Thrust___init___2
      simp only [objPut, kMk, kOp, aCons, aNil, kFld, mvar, mbind_ret, f_across, f_up, f_moment, fdv1, mk_fo, List.append_nil, sof_ret, List.getElem?_cons_succ, List.getElem?_cons_zero]
      rfl
    have e3 : b_Thrust___init___3 [some .self, some (fo a b c), some (.int 1), some (.int 1)] { s with obj := [("force", fo a b c)], ocls := 9 } = .nx [some .self, some (fo a b c), some (.int 1), some (.int 1)] { s with obj := [("force", fo a b c), ("parts", .int 1)], ocls := 9 } := by
      unfold b_Thrust___init___3
      simp only [objPut, kOp, aCons, aNil, mvar, mbind_ret, fdv1, List.append_nil, sof_ret, List.getElem?_cons_succ, List.getElem?_cons_zero]
      rfl
    have eb : b_Thrust___init__ (startL 4 [.self, fo a b c, .int 1]) { s with obj := [], ocls := 9 } = .nx [some .self, some (fo a b c), some (.int 1), some (.int 1)] { s with obj := [("force", fo a b c), ("parts", .int 1)], ocls := 9 } := by
      show sseq b_Thrust___init___0 _ [some .self, some (fo a b c), some (.int 1), none] _ = _
      rw [sseq_nx e0, sseq_nx e1, sseq_nx e2, e3]
    unfold m_Thrust___init__ mdef
    rw [eb]
  exact mkD_of rfl e
/-- the other force's numbers -/
theorem comp_ok (a b c at' st : Int) (h0 : 0 ≤ at') (h1 : at' < 3) (hs : st = 1 ∨ st = -1 ∨ st = 1000000000000000000000000000000) : ∃ x y z, kLc (iR1 (aCons (kC (.int 3)) aNil)) (gnm 7) (fun _ => mret true) (kOp addIL (kOp itemD (mvar 1) (mvar 7)) (kOp mulI (mvar 4) (kCall intD (aCons (kOp eqA (mvar 7) (mvar 3)) aNil)))) [7] [some .pen, some (tri a b c), some (fo a b c), some (.int at'), some (.int st), none, none, none] = mret (til x y z) ∧ ¬ (a = x ∧ b = y ∧ c = z) := by
  have h : at' = 0 ∨ at' = 1 ∨ at' = 2 := by omega
  rcases h with rfl | rfl | rfl <;> rcases hs with rfl | rfl | rfl
  · exact ⟨a + 1, b + 0, c + 0, by funext s; rfl, by omega⟩
  · exact ⟨a + -1, b + 0, c + 0, by funext s; rfl, by omega⟩
  · exact ⟨a + 1000000000000000000000000000000, b + 0, c + 0, by funext s; rfl, by omega⟩
  · exact ⟨a + 0, b + 1, c + 0, by funext s; rfl, by omega⟩
  · exact ⟨a + 0, b + -1, c + 0, by funext s; rfl, by omega⟩
  · exact ⟨a + 0, b + 1000000000000000000000000000000, c + 0, by funext s; rfl, by omega⟩
  · exact ⟨a + 0, b + 0, c + 1, by funext s; rfl, by omega⟩
  · exact ⟨a + 0, b + 0, c + -1, by funext s; rfl, by omega⟩
  · exact ⟨a + 0, b + 0, c + 1000000000000000000000000000000, by funext s; rfl, by omega⟩
theorem equal_ok (a b c : Int) (s : Pen) : ∃ s', m__law_equal [.pen, tri a b c] s = .ok (.bl true) s' := by
  obtain ⟨at', s1, e1, h0, h1, _⟩ := take_ok s 3 (by decide) (by decide)
  obtain ⟨d, s2, e2, hd, _⟩ := of_ok s1 [.int 1, .int (-1), .int 1000000000000000000000000000000] (by decide) (by decide)
  obtain ⟨st, rfl, hs⟩ : ∃ i : Int, d = .int i ∧ (i = 1 ∨ i = -1 ∨ i = 1000000000000000000000000000000) := by
    simp only [List.mem_cons, List.not_mem_nil, or_false] at hd
    rcases hd with rfl | rfl | rfl
    · exact ⟨_, rfl, .inl rfl⟩
    · exact ⟨_, rfl, .inr (.inl rfl)⟩
    · exact ⟨_, rfl, .inr (.inr rfl)⟩
  obtain ⟨x, y, z, ec, hn⟩ := comp_ok a b c at' st h0 h1 hs
  have hn' : ¬ (x = a ∧ y = b ∧ z = c) := fun q => hn ⟨q.1.symm, q.2.1.symm, q.2.2.symm⟩
  refine ⟨s2, mdef_ret ?_⟩
  have p0 : b__law_equal_0 [some .pen, some (tri a b c), none, none, none, none, none, none] s = .nx [some .pen, some (tri a b c), some (fo a b c), none, none, none, none, none] s := by
    unfold b__law_equal_0
    walk_at "tw"
  have p1 : b__law_equal_1 [some .pen, some (tri a b c), some (fo a b c), none, none, none, none, none] s = .nx [some .pen, some (tri a b c), some (fo a b c), some (.int at'), none, none, none, none] s1 := by
    unfold b__law_equal_1
    walk_at "tw"
  have p2 : b__law_equal_2 [some .pen, some (tri a b c), some (fo a b c), some (.int at'), none, none, none, none] s1 = .nx [some .pen, some (tri a b c), some (fo a b c), some (.int at'), some (.int st), none, none, none] s2 := by
    unfold b__law_equal_2
    walk_at "tw"
  have p3 : b__law_equal_3 [some .pen, some (tri a b c), some (fo a b c), some (.int at'), some (.int st), none, none, none] s2 = .nx [some .pen, some (tri a b c), some (fo a b c), some (.int at'), some (.int st), some (til x y z), none, none] s2 := by
    unfold b__law_equal_3 sasg
    rw [ec]
    rfl
  have p4 : b__law_equal_4 [some .pen, some (tri a b c), some (fo a b c), some (.int at'), some (.int st), some (til x y z), none, none] s2 = .nx [some .pen, some (tri a b c), some (fo a b c), some (.int at'), some (.int st), some (til x y z), some (fo x y z), none] s2 := by
    unfold b__law_equal_4
    walk_at "tw"
  have q1 := eq_fo a b c a b c
  have q2 := eq_fo a b c x y z
  have q3 := ne_fo a b c a b c
  have q4 := ne_fo x y z a b c
  rw [decide_eq_true (show a = a ∧ b = b ∧ c = c from ⟨rfl, rfl, rfl⟩)] at q1 q3
  rw [decide_eq_false hn] at q2
  rw [decide_eq_false hn'] at q4
  have p5 : b__law_equal_5 [some .pen, some (tri a b c), some (fo a b c), some (.int at'), some (.int st), some (til x y z), some (fo x y z), none] s2 = .nx [some .pen, some (tri a b c), some (fo a b c), some (.int at'), some (.int st), some (til x y z), some (fo x y z), none] s2 := by
    clear e1 e2 p0 p1 p2 p3 p4 ec
    unfold b__law_equal_5
    walk_at "tw"
  have r1 := eq_no a b c (tri a b c) (.inl "tuple") rfl rfl (isiA_cls 7 rfl rfl)
  have r2 := eq_no a b c (.str "force") (.inl "str") rfl rfl (isiA_cls 7 rfl rfl)
  have r3 := eq_no a b c (ld a b c) (.inr 8) rfl rfl (isiA_cls 7 rfl rfl)
  have r4 := eq_no a b c (th a b c 1) (.inr 9) rfl rfl (isiA_cls 7 rfl rfl)
  have g1 := mk_ld a b c
  have g2 := mk_th1 a b c
  have p6 : b__law_equal_6 [some .pen, some (tri a b c), some (fo a b c), some (.int at'), some (.int st), some (til x y z), some (fo x y z), none] s2 = .ret (.bl true) s2 := by
    clear e1 e2 p0 p1 p2 p3 p4 p5 ec
    unfold b__law_equal_6
    walk_at "tw"
  show sseq b__law_equal_0 _ [some .pen, some (tri a b c), none, none, none, none, none, none] s = _
  rw [sseq_nx p0, sseq_nx p1, sseq_nx p2, sseq_nx p3, sseq_nx p4, sseq_nx p5, p6]
end K02

set_option Elab.async false
set_option linter.all false
set_option maxRecDepth 100000
set_option maxHeartbeats 4000000
set_option autoImplicit false
namespace K02
open PySem L2 Tw
local macro_rules | `(tactic| walk_at "sm") => `(tactic| first | assumption | exact Sm.lit200 (by decide) | (apply Sm.mul; walk_at "sm"; walk_at "sm") | (apply Sm.add2; walk_at "sm"; walk_at "sm") | (apply Sm.sub2; walk_at "sm"; walk_at "sm") | (apply Sm.neg; walk_at "sm"))
local macro_rules | `(tactic| walk_at "mo") => `(tactic| (apply mulOk_any; walk_at "sm"; walk_at "sm"; decide))
local macro_rules | `(tactic| walk_at "ds") => `(tactic| first | assumption | rfl | walk_at "mo" | decide | omega)
local macro_rules | `(tactic| walk_at "tw") => `(tactic| simp (disch := walk_at "ds") only [mdef, startL, sseq, zNx, zIf, zRet, zRetN, zEx, zBk, zCt, zRaise, zRaiseN, sasg, spar, spar3, sof_ret, sof_ok, mret_ap, mbind_ap, obind_ok, mbind_ret, mbind_bad, kC, kOp, kUn, kB, kAnd, kOr, kNot, kAndV, kOrV, kNotV, kIf, kCh, aNil, aCons, kCall, kMk, kMkV, kCmS, kMeth, kProp, kFld, iL, iT, iR1, iR2, mvar, gnm, gtm, glm, gem, gcn, gnl, asB, asL, asT, int2, int2c, addIL, addI, subI, mul_eq, fdv_eq, fdv_64, fmd_eq, ne_eq, not_false_eq_true, Int.reduceEq, Nat.reduceLeDiff, Int.reduceAdd, Int.reduceNeg, Int.reduceLT, Int.reduceLE, Int.reduceSub, Nat.reduceEqDiff, Nat.reduceLT, p9, p15, p18, p20, p30, p6, negI, ltI, leI, gtI, geI, eqA_int, eqA_bl, neA_int, neA_bl, isBo, notBo, isNo, notNo, tupD, lstD, itemD, gcdD, gcd4D, intD, absD, lenD, listD, tupleD, penGet, penPut, Pen.get, Pen.put, bagGet, bagPut, Pen.bget, Pen.bput, objPut,
  isI_ins, at0, at1, at2, isiA_int, isiA_bl, isiA_non, isiA_str, isiA_tup, isiA_lst, ii_int, ii_bool, ib_int, ib_bool, in_int, is_int, it_int, il_int, it_tuple, nox_ret,
  List.map_cons, List.map_nil, List.length_cons, List.length_nil, List.cons_append, List.nil_append, List.append_nil, List.getElem?_cons_zero, List.getElem?_cons_succ, List.set_cons_zero, List.set_cons_succ, List.replicate_succ, List.replicate_zero, Nat.reduceSub, Nat.reduceAdd, if_true, if_false, decide_eq_true_eq, Bool.not_eq_true', Bool.true_eq_false, Bool.false_eq_true, reduceIte, decide_true, decide_false, Bool.not_true, Bool.not_false, ite_true, ite_false, List.length_map, and_true, true_and, and_false, false_and, and_self, or_true, true_or, or_false, false_or, not_true_eq_false, Bool.not_eq_false, Bool.not_eq_true, decide_eq_false_iff_not, Int.sub_self, beq_self_eq_true, Bool.and_self, Bool.true_and, Bool.and_true, Bool.and_false, Bool.false_and, eqL3, eq_self, mk_fo, f_across, f_up, f_moment, is_fo, nat1, isnum_int, lisnum_int, none_fo, *])
theorem about_ok (a b c x y : Int) (d : D) (hd : d = .tup [.int x, .int y] ∨ d = .lst [.int x, .int y]) (ha : Sm 230 a) (hb : Sm 230 b) (hx : Sm 21 x) (hy : Sm 21 y) : m_Force_about [fo a b c, d] = mret (.int (c - x * b + y * a)) := by
  funext s
  refine mdef_ret ?_
  unfold b_Force_about b_Force_about_0 b_Force_about_1
  rcases hd with rfl | rfl
  · walk_at "tw"
  · walk_at "tw"
theorem acting_ok (a b x y : Int) (ha : Sm 230 a) (hb : Sm 230 b) (hx : Sm 21 x) (hy : Sm 21 y) : m_Force_acting [.cls 7, .int a, .int b, .tup [.int x, .int y]] = mret (fo a b (x * b - y * a)) := by
  funext s
  refine mdef_ret ?_
  unfold b_Force_acting b_Force_acting_0 b_Force_acting_1
  walk_at "tw"
theorem hanging_ok (p x : Int) (hp : Sm 230 p) (hx : Sm 21 x) : m_Force_hanging [.cls 7, .int p, .int x] = mret (fo 0 (-p) (-p * x)) := by
  funext s
  refine mdef_ret ?_
  unfold b_Force_hanging
  walk_at "tw"
theorem point_ok (a b c p q r : Int) (s : Pen) : ∃ x y s', sseq b__law_about_0 b__law_about_1 [some .pen, some (tri a b c), some (tri p q r), none, none, none, none, none] s = .nx [some .pen, some (tri a b c), some (tri p q r), some (.tup [.int x, .int y]), none, none, none, none] s' ∧ Sm 21 x ∧ Sm 21 y := by
  obtain ⟨u, s1, e1, u0, u1, _⟩ := take_ok s 2000001 (by decide) (by decide)
  obtain ⟨v, s2, e2, v0, v1, _⟩ := take_ok s1 41 (by decide) (by decide)
  obtain ⟨w, s3, e3, w0, w1, _⟩ := take_ok s2 2 (by decide) (by decide)
  have p0 : b__law_about_0 [some .pen, some (tri a b c), some (tri p q r), none, none, none, none, none] s = .nx [some .pen, some (tri a b c), some (tri p q r), some (.tup [.int (u - 1000000), .int (v - 20)]), none, none, none, none] s2 := by
    unfold b__law_about_0
    walk_at "tw"
  rw [sseq_nx p0]
  clear p0 e1 e2
  by_cases hw : w = 0
  · subst hw
    refine ⟨v - 20, -(u - 1000000), s3, ?_, by unfold Sm; omega, by unfold Sm; omega⟩
    unfold b__law_about_1
    walk_at "tw"
  · refine ⟨u - 1000000, v - 20, s3, ?_, by unfold Sm; omega, by unfold Sm; omega⟩
    unfold b__law_about_1
    walk_at "tw"
theorem about_rest (a b c p q r x y : Int) (s : Pen) (ha : Sm 110 a) (hb : Sm 110 b) (hc : Sm 110 c) (hp : Sm 110 p) (hq : Sm 110 q) (hr : Sm 110 r) (hx : Sm 21 x) (hy : Sm 21 y) :
    (sseq b__law_about_2 (sseq b__law_about_3 (sseq b__law_about_4 (sseq b__law_about_5 (sseq b__law_about_6 (sseq b__law_about_7 (sseq b__law_about_8 b__law_about_9))))))) [some .pen, some (tri a b c), some (tri p q r), some (.tup [.int x, .int y]), none, none, none, none] s = .ret (.bl true) s := by
  have a1 : Sm 230 a := ha.mono (by decide)
  have b1 : Sm 230 b := hb.mono (by decide)
  have p1 : Sm 230 p := hp.mono (by decide)
  have q1 : Sm 230 q := hq.mono (by decide)
  have n1 : Sm 230 (-p) := p1.neg
  have n2 : Sm 230 (-q) := q1.neg
  have ap : Sm 230 (a + p) := (ha.add2 hp).mono (by decide)
  have bq : Sm 230 (b + q) := (hb.add2 hq).mono (by decide)
  have z1 : Sm 230 0 := by decide
  have t17 : Sm 21 17 := by decide
  have A1 := about_ok a b c x y _ (.inl rfl) a1 b1 hx hy
  have A2 := about_ok p q r x y _ (.inl rfl) p1 q1 hx hy
  have A3 := about_ok (a + p) (b + q) (c + r) x y _ (.inr rfl) ap bq hx hy
  have A4 := about_ok (-p) (-q) (-r) x y _ (.inl rfl) n1 n2 hx hy
  have A5 := about_ok a b (x * b - y * a) x y _ (.inl rfl) a1 b1 hx hy
  have A6 := about_ok 0 (-p) (-p * x) x 17 _ (.inl rfl) z1 n1 hx t17
  have M1 := moment_ok a b c x y (mulOk_any hx b1 (by decide)) (mulOk_any hy a1 (by decide))
  have M2 := moment_ok p q r x y (mulOk_any hx q1 (by decide)) (mulOk_any hy p1 (by decide))
  have E3 : c + r - x * (b + q) + y * (a + p) = c - x * b + y * a + (r - x * q + y * p) := by rw [Int.mul_add, Int.mul_add]; omega
  have E4 : -r - x * -q + y * -p = -(r - x * q + y * p) := by rw [Int.mul_neg, Int.mul_neg]; omega
  have E5 : x * b - y * a - x * b + y * a = 0 := by omega
  have E6 : -p * x - x * -p + 17 * 0 = 0 := by rw [Int.mul_neg, Int.neg_mul, Int.mul_comm]; omega
  rw [E3] at A3
  rw [E4] at A4
  rw [E5] at A5
  rw [E6] at A6
  have B1 := acting_ok a b x y a1 b1 hx hy
  have B2 := hanging_ok p x p1 hx
  have B3 := acting_ok 0 (-p) x y z1 n1 hx hy
  rw [show x * -p - y * 0 = -p * x by rw [Int.mul_zero, Int.mul_neg, Int.neg_mul, Int.mul_comm]; omega] at B3
  have C1 := right_eq a b (x * b - y * a) a b (x * b - y * a) _ (.inl rfl) rfl rfl rfl
  have C2 := right_eq 0 (-p) (-p * x) 0 (-p) (-p * x) _ (.inl rfl) rfl rfl rfl
  have C3 := right_eq 0 0 0 0 0 0 _ (.inl rfl) rfl rfl rfl
  have D1 := eq_fo 0 (-p) (-p * x) 0 (-p) (-p * x)
  rw [decide_eq_true (show (0 : Int) = 0 ∧ -p = -p ∧ -p * x = -p * x from ⟨rfl, rfl, rfl⟩)] at D1
  have m1 := mulOk_any hx b1 (by decide)
  have m2 := mulOk_any hy a1 (by decide)
  have m3 := mulOk_any n1 hx (by decide)
  clear E3 E4 E5 E6
  have s2 : b__law_about_2 [some .pen, some (tri a b c), some (tri p q r), some (.tup [.int x, .int y]), none, none, none, none] s = .nx [some .pen, some (tri a b c), some (tri p q r), some (.tup [.int x, .int y]), none, none, some (fo a b c), some (fo p q r)] s := by
    clear A1 A2 A3 A4 A5 A6 B1 B2 B3 C1 C2 C3 D1 M1 M2
    unfold b__law_about_2
    walk_at "tw"
  have s3 : b__law_about_3 [some .pen, some (tri a b c), some (tri p q r), some (.tup [.int x, .int y]), none, none, some (fo a b c), some (fo p q r)] s = .nx [some .pen, some (tri a b c), some (tri p q r), some (.tup [.int x, .int y]), none, none, some (fo a b c), some (fo p q r)] s := by
    clear A2 A3 A4 A5 A6 B1 B2 B3 C1 C2 C3 D1 M2 s2
    unfold b__law_about_3
    walk_at "tw"
  have g1 := add_fo a b c p q r
  have g2 := neg_fo p q r
  have s4 : b__law_about_4 [some .pen, some (tri a b c), some (tri p q r), some (.tup [.int x, .int y]), none, none, some (fo a b c), some (fo p q r)] s = .nx [some .pen, some (tri a b c), some (tri p q r), some (.tup [.int x, .int y]), none, none, some (fo a b c), some (fo p q r)] s := by
    clear A5 A6 B1 B2 B3 C1 C2 C3 D1 s2 s3
    unfold b__law_about_4
    walk_at "tw"
  have s5 : b__law_about_5 [some .pen, some (tri a b c), some (tri p q r), some (.tup [.int x, .int y]), none, none, some (fo a b c), some (fo p q r)] s = .nx [some .pen, some (tri a b c), some (tri p q r), some (.tup [.int x, .int y]), some (fo a b (x * b - y * a)), none, some (fo a b c), some (fo p q r)] s := by
    clear A1 A2 A3 A4 A5 A6 B2 B3 C1 C2 C3 D1 M1 M2 s2 s3 s4 g1 g2
    unfold b__law_about_5
    walk_at "tw"
  have s6 : b__law_about_6 [some .pen, some (tri a b c), some (tri p q r), some (.tup [.int x, .int y]), some (fo a b (x * b - y * a)), none, some (fo a b c), some (fo p q r)] s = .nx [some .pen, some (tri a b c), some (tri p q r), some (.tup [.int x, .int y]), some (fo a b (x * b - y * a)), none, some (fo a b c), some (fo p q r)] s := by
    clear A1 A2 A3 A4 A6 B1 B2 B3 C2 C3 D1 M1 M2 s2 s3 s4 s5 g1 g2
    unfold b__law_about_6
    walk_at "tw"
  have s7 : b__law_about_7 [some .pen, some (tri a b c), some (tri p q r), some (.tup [.int x, .int y]), some (fo a b (x * b - y * a)), none, some (fo a b c), some (fo p q r)] s = .nx [some .pen, some (tri a b c), some (tri p q r), some (.tup [.int x, .int y]), some (fo a b (x * b - y * a)), some (fo 0 (-p) (-p * x)), some (fo a b c), some (fo p q r)] s := by
    clear A1 A2 A3 A4 A5 A6 B1 B3 C1 C2 C3 D1 M1 M2 s2 s3 s4 s5 s6 g1 g2
    unfold b__law_about_7
    walk_at "tw"
  have s8 : b__law_about_8 [some .pen, some (tri a b c), some (tri p q r), some (.tup [.int x, .int y]), some (fo a b (x * b - y * a)), some (fo 0 (-p) (-p * x)), some (fo a b c), some (fo p q r)] s = .nx [some .pen, some (tri a b c), some (tri p q r), some (.tup [.int x, .int y]), some (fo a b (x * b - y * a)), some (fo 0 (-p) (-p * x)), some (fo a b c), some (fo p q r)] s := by
    clear A1 A2 A3 A4 A5 B1 B2 B3 C1 C3 D1 M1 M2 s2 s3 s4 s5 s6 s7 g1 g2
    unfold b__law_about_8
    walk_at "tw"
  have s9 : b__law_about_9 [some .pen, some (tri a b c), some (tri p q r), some (.tup [.int x, .int y]), some (fo a b (x * b - y * a)), some (fo 0 (-p) (-p * x)), some (fo a b c), some (fo p q r)] s = .ret (.bl true) s := by
    clear A1 A2 A3 A4 A5 A6 B1 B2 C1 C2 M1 M2 s2 s3 s4 s5 s6 s7 s8 g1 g2
    unfold b__law_about_9
    walk_at "tw"
  rw [sseq_nx s2, sseq_nx s3, sseq_nx s4, sseq_nx s5, sseq_nx s6, sseq_nx s7, sseq_nx s8, s9]
theorem about_law (a b c p q r : Int) (s : Pen) (ha : Sm 110 a) (hb : Sm 110 b) (hc : Sm 110 c) (hp : Sm 110 p) (hq : Sm 110 q) (hr : Sm 110 r) : ∃ s', m__law_about [.pen, tri a b c, tri p q r] s = .ok (.bl true) s' := by
  obtain ⟨x, y, s', e, hx, hy⟩ := point_ok a b c p q r s
  refine ⟨s', mdef_ret ?_⟩
  have e2 := about_rest a b c p q r x y s' ha hb hc hp hq hr hx hy
  show sseq b__law_about_0 (sseq b__law_about_1 _) [some .pen, some (tri a b c), some (tri p q r), none, none, none, none, none] s = _
  have as : ∀ (m1 m2 m3 : MS) (ρ : Tw.Loc) (s : Pen), sseq m1 (sseq m2 m3) ρ s = sseq (sseq m1 m2) m3 ρ s := fun m1 m2 m3 ρ s => by
    unfold sseq
    cases m1 ρ s <;> rfl
  rw [as, sseq_nx e, e2]
end K02

set_option Elab.async false
set_option linter.all false
set_option maxRecDepth 100000
set_option maxHeartbeats 4000000
set_option autoImplicit false
namespace K02
open PySem L2 Tw
local macro_rules | `(tactic| walk_at "sm") => `(tactic| first | assumption | exact Sm.lit200 (by decide) | (apply Sm.mul; walk_at "sm"; walk_at "sm") | (apply Sm.add2; walk_at "sm"; walk_at "sm") | (apply Sm.sub2; walk_at "sm"; walk_at "sm") | (apply Sm.neg; walk_at "sm"))
local macro_rules | `(tactic| walk_at "mo") => `(tactic| (apply mulOk_any; walk_at "sm"; walk_at "sm"; decide))
local macro_rules | `(tactic| walk_at "ds") => `(tactic| first | assumption | rfl | walk_at "mo" | decide | omega)
local macro_rules | `(tactic| walk_at "tw") => `(tactic| simp (disch := walk_at "ds") only [mdef, startL, sseq, zNx, zIf, zRet, zRetN, zEx, zBk, zCt, zRaise, zRaiseN, sasg, spar, spar3, sof_ret, sof_ok, mret_ap, mbind_ap, obind_ok, mbind_ret, mbind_bad, kC, kOp, kUn, kB, kAnd, kOr, kNot, kAndV, kOrV, kNotV, kIf, kCh, aNil, aCons, kCall, kMk, kMkV, kCmS, kMeth, kProp, kFld, iL, iT, iR1, iR2, mvar, gnm, gtm, glm, gem, gcn, gnl, asB, asL, asT, int2, int2c, addIL, addI, subI, mul_eq, fdv_eq, fdv_64, fmd_eq, ne_eq, not_false_eq_true, Int.reduceEq, Nat.reduceLeDiff, Int.reduceAdd, Int.reduceNeg, Int.reduceLT, Int.reduceLE, Int.reduceSub, Nat.reduceEqDiff, Nat.reduceLT, p9, p15, p18, p20, p30, p6, negI, ltI, leI, gtI, geI, eqA_int, eqA_bl, neA_int, neA_bl, isBo, notBo, isNo, notNo, tupD, lstD, itemD, gcdD, gcd4D, intD, absD, lenD, listD, tupleD, penGet, penPut, Pen.get, Pen.put, bagGet, bagPut, Pen.bget, Pen.bput, objPut,
  isI_ins, at0, at1, at2, isiA_int, isiA_bl, isiA_non, isiA_str, isiA_tup, isiA_lst, ii_int, ii_bool, ib_int, ib_bool, in_int, is_int, it_int, il_int, it_tuple, nox_ret,
  List.map_cons, List.map_nil, List.length_cons, List.length_nil, List.cons_append, List.nil_append, List.append_nil, List.getElem?_cons_zero, List.getElem?_cons_succ, List.set_cons_zero, List.set_cons_succ, List.replicate_succ, List.replicate_zero, Nat.reduceSub, Nat.reduceAdd, if_true, if_false, decide_eq_true_eq, Bool.not_eq_true', Bool.true_eq_false, Bool.false_eq_true, reduceIte, decide_true, decide_false, Bool.not_true, Bool.not_false, ite_true, ite_false, List.length_map, and_true, true_and, and_false, false_and, and_self, or_true, true_or, or_false, false_or, not_true_eq_false, Bool.not_eq_false, Bool.not_eq_true, decide_eq_false_iff_not, Int.sub_self, beq_self_eq_true, Bool.and_self, Bool.true_and, Bool.and_true, Bool.and_false, Bool.false_and, eq_self, mk_fo, f_across, f_up, f_moment, is_fo, nat1, isnum_int, lisnum_int, gApp, *])
/-- a thing that is drawn; b: is it a whole number -/
structure Th (d : D) (b : Bool) : Prop where
  l : m__law_is_number [d] = mret (.bl b)
  n : m_is_number [d] = mret (.bl b)
  c : clear d = true
  i : b = true → ∃ n : Int, d = .int n
  e : noErr d = true
theorem th_int (n : Int) : Th (.int n) true := ⟨lisnum_int n, isnum_int n, rfl, fun _ => ⟨n, rfl⟩, rfl⟩
theorem th_non : Th .non false := by
  refine ⟨?_, ?_, rfl, (fun h => nomatch h), rfl⟩ <;> (funext s; refine mdef_ret ?_; (first | unfold b__law_is_number | unfold b_is_number); walk_at "tw")
theorem th_bl (b : Bool) : Th (.bl b) false := by
  refine ⟨?_, ?_, rfl, (fun h => nomatch h), rfl⟩ <;> (funext s; refine mdef_ret ?_; (first | unfold b__law_is_number | unfold b_is_number); walk_at "tw")
theorem th_str (x : Str) : Th (.str x) false := by
  refine ⟨?_, ?_, rfl, (fun h => nomatch h), rfl⟩ <;> (funext s; refine mdef_ret ?_; (first | unfold b__law_is_number | unfold b_is_number); walk_at "tw")
theorem th_tup (n : Int) : Th (.tup [.int n]) false := by
  refine ⟨?_, ?_, rfl, (fun h => nomatch h), rfl⟩ <;> (funext s; refine mdef_ret ?_; (first | unfold b__law_is_number | unfold b_is_number); walk_at "tw")
theorem th_lst (n : Int) : Th (.lst [.int n]) false := by
  refine ⟨?_, ?_, rfl, (fun h => nomatch h), rfl⟩ <;> (funext s; refine mdef_ret ?_; (first | unfold b__law_is_number | unfold b_is_number); walk_at "tw")
theorem turn_ok (x2 x3 x4 x5 x6 x7 x8 : Option D) (s : Pen) (hg : s.ocls = gro) (hl : s.obj.length < 10) : ∃ d b n s', lb__law_refusals_0 [some .pen, some .self, x2, x3, x4, x5, x6, x7, x8] s = .nx [some .pen, some .self, x2, x3, x4, x5, x6, x7, some (.int n)] s' ∧ Th d b ∧ s'.obj = s.obj ++ [(("" : Str), d)] ∧ s'.ocls = gro := by
  obtain ⟨n, s1, e1, hn, o1, g1⟩ := number_ok s
  have hlog : n.natAbs.log2 < 1920 := by
    have h : n.natAbs ≤ 2 ^ 110 := Nat.le_of_lt hn
    exact Nat.lt_of_le_of_lt (log2_le h) (by decide)
  have est : strD [.int n] = mret (.str (toString n)) := by
    unfold strD
    dsimp only
    rw [if_pos (decide_eq_true hlog)]
  obtain ⟨d, s2, e2, hd, o2, g2⟩ := of_ok s1 [.int n, .int n, .int n, .non, .bl true, .bl false, .str (toString n), .tup [.int n], .lst [.int n]] (by simp) (by simp)
  obtain ⟨b, ht⟩ : ∃ b, Th d b := by
    simp only [List.mem_cons, List.not_mem_nil, or_false] at hd
    rcases hd with rfl | rfl | rfl | rfl | rfl | rfl | rfl | rfl | rfl
    · exact ⟨_, th_int n⟩
    · exact ⟨_, th_int n⟩
    · exact ⟨_, th_int n⟩
    · exact ⟨_, th_non⟩
    · exact ⟨_, th_bl true⟩
    · exact ⟨_, th_bl false⟩
    · exact ⟨_, th_str _⟩
    · exact ⟨_, th_tup n⟩
    · exact ⟨_, th_lst n⟩
  have gg1 : s1.ocls = gro := g1.trans hg
  have gg2 : s2.ocls = gro := g2.trans gg1
  have gl : s2.obj.length < 100000 := by rw [o2, o1]; omega
  have hc := ht.c
  have hb1 : (s1.ocls == gro) = true := beq_iff_eq.mpr gg1
  have hb2 : (s2.ocls == gro && clear d && decide (s2.obj.length < 100000)) = true := by rw [beq_iff_eq.mpr gg2, hc, decide_eq_true gl]; rfl
  refine ⟨d, b, n, { s2 with obj := s2.obj ++ [(("" : Str), d)] }, ?_, ht, by show s2.obj ++ _ = _; rw [o2, o1], gg2⟩
  have q : sasg (kCall m__law_number (aCons (mvar 0) aNil)) (gnm 8) [some .pen, some .self, x2, x3, x4, x5, x6, x7, x8] s = .nx [some .pen, some .self, x2, x3, x4, x5, x6, x7, some (.int n)] s1 := by
    clear e2
    walk_at "tw"
  unfold lb__law_refusals_0
  rw [sseq_nx q]
  have e3 : (kCall m__law_of (aCons (mvar 0) (aCons (kCall lstD (aCons (mvar 8) (aCons (mvar 8) (aCons (mvar 8) (aCons (kC .non) (aCons (kC (.bl true)) (aCons (kC (.bl false)) (aCons (kCall strD (aCons (mvar 8) aNil)) (aCons (kCall tupD (aCons (mvar 8) aNil)) (aCons (kCall lstD (aCons (mvar 8) aNil)) aNil)))))))))) aNil))) [some .pen, some .self, x2, x3, x4, x5, x6, x7, some (.int n)] s1 = .ok d s2 := by
    clear e1 q
    walk_at "tw"
  show sof (mvar 1 [some .pen, some .self, x2, x3, x4, x5, x6, x7, some (.int n)] s1) _ _ = _
  have e4 : mvar 1 [some .pen, some .self, x2, x3, x4, x5, x6, x7, some (.int n)] s1 = .ok .self s1 := rfl
  rw [e4]
  show (if (s1.ocls == gro) = true then _ else _) = _
  rw [if_pos hb1, e3]
  show (if (s2.ocls == gro && clear d && decide (s2.obj.length < 100000)) = true then _ else _) = _
  rw [if_pos hb2]
theorem sl_nx {gm : D → Tw.Loc → Option Tw.Loc} {mb : MS} {d : D} {ds : List D} {ρ ρ1 ρ2 : Tw.Loc} {s s2 : Pen} (h : gm d ρ = some ρ1) (e : mb ρ1 s = .nx ρ2 s2) : sloop gm mb (d :: ds) ρ s = sloop gm mb ds ρ2 s2 := by
  show (match gm d ρ with | none => _ | some ρ1 => _) = _
  rw [h]
  dsimp only
  rw [e]
theorem gb_ok (s : Pen) (hg : s.ocls = gro) (h0 : s.obj = []) : ∃ d1 b1 d2 b2 d3 b3 n s', gb__law_refusals_1 [some .pen, some .self, none, none, none, none, none, none, none] s = .nx [some .pen, some .self, some (.int 2), none, none, none, none, none, some (.int n)] s' ∧ Th d1 b1 ∧ Th d2 b2 ∧ Th d3 b3 ∧ s'.obj = [(("" : Str), d1), ("", d2), ("", d3)] := by
  obtain ⟨d1, b1, n1, s1, e1, t1, o1, g1⟩ := turn_ok (some (.int 0)) none none none none none none s hg (by rw [h0]; decide)
  obtain ⟨d2, b2, n2, s2, e2, t2, o2, g2⟩ := turn_ok (some (.int 1)) none none none none none (some (.int n1)) s1 g1 (by rw [o1, h0]; simp)
  obtain ⟨d3, b3, n3, s3, e3, t3, o3, g3⟩ := turn_ok (some (.int 2)) none none none none none (some (.int n2)) s2 g2 (by rw [o2, o1, h0]; simp)
  refine ⟨d1, b1, d2, b2, d3, b3, n3, s3, ?_, t1, t2, t3, by rw [o3, o2, o1, h0]; rfl⟩
  show sloop (gnm 2) lb__law_refusals_0 [.int 0, .int 1, .int 2] _ s = _
  rw [sl_nx (ρ1 := [some .pen, some .self, some (.int 0), none, none, none, none, none, none]) rfl e1, sl_nx (ρ1 := [some .pen, some .self, some (.int 1), none, none, none, none, none, some (.int n1)]) rfl e2, sl_nx (ρ1 := [some .pen, some .self, some (.int 2), none, none, none, none, none, some (.int n2)]) rfl e3]
  rfl
theorem grow_nx {n : Nat} {f : Tw.Loc → M (List D)} {mb : MS} {ρ ρ2 : Tw.Loc} {s s1 s2 : Pen} {ds : List D} (hf : f ρ s = .ok ds s1) (hc : (clearL ds && decide (n < ρ.length)) = true)
    (hm : mb ((ρ.map cleanS).set n (some .self)) { s1 with obj := ds.map (fun d => ("", d)), ocls := gro } = .nx ρ2 s2) (hs : ρ2[n]? = some (some .self)) :
    sGrow n f mb ρ s = .nx ((ρ2.map cleanS).set n (some (.lst (s2.obj.map (·.2))))) { s2 with obj := s1.obj, ocls := s1.ocls } := by
  unfold sGrow
  rw [hf]
  show (if _ then _ else _) = _
  rw [if_pos hc, hm]
  dsimp only
  rw [hs]
theorem ref0 (s : Pen) : ∃ d1 b1 d2 b2 d3 b3 n s', b__law_refusals_0 [some .pen, none, none, none, none, none, none, none, none] s = .nx [some .pen, some (.lst [d1, d2, d3]), some (.int 2), none, none, none, none, none, some (.int n)] s' ∧ Th d1 b1 ∧ Th d2 b2 ∧ Th d3 b3 := by
  obtain ⟨d1, b1, d2, b2, d3, b3, n, s1, e, t1, t2, t3, o⟩ := gb_ok { s with obj := [], ocls := gro } rfl rfl
  refine ⟨d1, b1, d2, b2, d3, b3, n, { s1 with obj := s.obj, ocls := s.ocls }, ?_, t1, t2, t3⟩
  unfold b__law_refusals_0
  rw [grow_nx (n := 1) (f := kFew aNil) (ds := []) (s1 := s) rfl rfl e rfl, o]
  rfl
/-- the first word -/
def fw (b1 b2 : Bool) : Str := if b1 = true then (if b2 = true then "moment" else "up") else "across"
theorem mk_bad {d1 d2 d3 : D} {b1 b2 b3 : Bool} (t1 : Th d1 b1) (t2 : Th d2 b2) (t3 : Th d3 b3) (h : (b1 && (b2 && b3)) = false) (s : Pen) : mkD 7 m_Force___init__ [d1, d2, d3] s = .exc 2 ["what"] [.str (fw b1 b2)] s := by
  have h1 := t1.n
  have h2 := t2.n
  have h3 := t3.n
  have hc : clearL [d1, d2, d3] = true := by
    show (clear d1 && (clear d2 && (clear d3 && true))) = true
    rw [t1.c, t2.c, t3.c]; rfl
  have e : m_Force___init__ [.self, d1, d2, d3] { s with obj := [], ocls := 7 } = .exc 2 ["what"] [.str (fw b1 b2)] { s with obj := [], ocls := 7 } := by
    unfold m_Force___init__ b_Force___init__ b_Force___init___0 b_Force___init___1 b_Force___init___2
    clear t1 t2 t3
    cases b1
    · walk_at "tw"
      rfl
    · cases b2
      · walk_at "tw"
        rfl
      · cases b3
        · walk_at "tw"
          rfl
        · cases h
  exact mkD_exc (by rw [hc]; rfl) rfl e rfl
theorem cl_t {gm : D → Tw.Loc → Option Tw.Loc} {mt : Tw.Loc → M Bool} {me : Tw.Loc → M D} {d y : D} {ds acc : List D} {ρ ρ1 : Tw.Loc} (h : gm d ρ = some ρ1) (ht : mt ρ1 = mret true) (he : me ρ1 = mret y) (hl : acc.length < 100000) : cloop gm mt me (d :: ds) ρ acc = cloop gm mt me ds ρ (acc ++ [y]) := by
  show (match gm d ρ with | none => mbad | some ρ1 => _) = _
  rw [h]
  dsimp only
  rw [ht, he]
  show (mbind (mret y) fun y => if decide (acc.length < 100000) = true then cloop gm mt me ds ρ (acc ++ [y]) else mbad) = _
  show (if decide (acc.length < 100000) = true then cloop gm mt me ds ρ (acc ++ [y]) else mbad) = _
  rw [if_pos (decide_eq_true hl)]
theorem cl_f {gm : D → Tw.Loc → Option Tw.Loc} {mt : Tw.Loc → M Bool} {me : Tw.Loc → M D} {d : D} {ds acc : List D} {ρ ρ1 : Tw.Loc} (h : gm d ρ = some ρ1) (ht : mt ρ1 = mret false) : cloop gm mt me (d :: ds) ρ acc = cloop gm mt me ds ρ acc := by
  show (match gm d ρ with | none => mbad | some ρ1 => _) = _
  rw [h]
  dsimp only
  rw [ht]
  rfl
/-- the words of what is no number -/
def ws (b1 b2 b3 : Bool) : List D := (if b1 = true then [] else [.str "across"]) ++ ((if b2 = true then [] else [.str "up"]) ++ (if b3 = true then [] else [.str "moment"]))
abbrev wrd : D := .lst [.str "across", .str "up", .str "moment"]
theorem comp_w {d1 d2 d3 : D} {b1 b2 b3 : Bool} (t1 : Th d1 b1) (t2 : Th d2 b2) (t3 : Th d3 b3) (x2 x4 x5 x6 x7 x8 : Option D) :
    kLc (iR1 (aCons (kC (.int 3)) aNil)) (gnm 2) (kNot (kB (kCall m__law_is_number (aCons (kOp itemD (mvar 1) (mvar 2)) aNil)))) (kOp itemD (mvar 3) (mvar 2)) [2] [some .pen, some (.lst [d1, d2, d3]), x2, some wrd, x4, x5, x6, x7, x8] = mret (.lst (ws b1 b2 b3)) := by
  have T : ∀ (k : Int) (d : D) (b : Bool), atI [d1, d2, d3] k = some d → m__law_is_number [d] = mret (.bl b) → (kNot (kB (kCall m__law_is_number (aCons (kOp itemD (mvar 1) (mvar 2)) aNil)))) [some .pen, some (.lst [d1, d2, d3]), some (.int k), some wrd, x4, x5, x6, x7, x8] = mret (!b) := fun k d b ha hd => by
    funext s
    show obind (obind (obind (obind ((match atI [d1, d2, d3] k with | some d => mret d | none => mbad) s) (fun x => mret [x])) m__law_is_number) asB) (fun c => mret (!c)) = _
    rw [ha]
    show obind (obind (m__law_is_number [d] s) asB) (fun c => mret (!c)) = _
    rw [hd]
    rfl
  have T1 := T 0 d1 b1 rfl t1.l
  have T2 := T 1 d2 b2 rfl t2.l
  have T3 := T 2 d3 b3 rfl t3.l
  funext s
  show obind (cloop (gnm 2) _ _ [.int 0, .int 1, .int 2] [some .pen, some (.lst [d1, d2, d3]), none, some wrd, x4, x5, x6, x7, x8] [] s) lstD = _
  have E : ∀ (k : Int) (w : D), itemD wrd (.int k) = mret w → (kOp itemD (mvar 3) (mvar 2)) [some .pen, some (.lst [d1, d2, d3]), some (.int k), some wrd, x4, x5, x6, x7, x8] = mret w := fun k w h => by
    funext s
    show itemD wrd (.int k) s = _
    rw [h]
  have E1 := E 0 (.str "across") rfl
  have E2 := E 1 (.str "up") rfl
  have E3 := E 2 (.str "moment") rfl
  cases b1 <;> cases b2 <;> cases b3
  · rw [cl_t rfl T1 E1 (by decide), cl_t rfl T2 E2 (by simp), cl_t rfl T3 E3 (by simp)]; rfl
  · rw [cl_t rfl T1 E1 (by decide), cl_t rfl T2 E2 (by simp), cl_f rfl T3]; rfl
  · rw [cl_t rfl T1 E1 (by decide), cl_f rfl T2, cl_t rfl T3 E3 (by simp)]; rfl
  · rw [cl_t rfl T1 E1 (by decide), cl_f rfl T2, cl_f rfl T3]; rfl
  · rw [cl_f rfl T1, cl_t rfl T2 E2 (by simp), cl_t rfl T3 E3 (by simp)]; rfl
  · rw [cl_f rfl T1, cl_t rfl T2 E2 (by simp), cl_f rfl T3]; rfl
  · rw [cl_f rfl T1, cl_f rfl T2, cl_t rfl T3 E3 (by simp)]; rfl
  · rw [cl_f rfl T1, cl_f rfl T2, cl_f rfl T3]; rfl
end K02

set_option Elab.async false
set_option linter.all false
set_option maxRecDepth 100000
set_option maxHeartbeats 4000000
set_option autoImplicit false
namespace K02
open PySem L2 Tw
theorem toPL_strs : ∀ ns : List Str, toPL (ns.map D.str) = some (ns.map PyData.str)
  | [] => rfl
  | n :: ns => by
    rw [List.map_cons, List.map_cons]
    unfold toPL
    rw [toPL_strs ns]
    rfl
theorem lay_strs : ∀ ns : List Str, ns.all PyData.strOk = true → PyData.canLayAll0 (ns.map PyData.str) = true
  | [], _ => by simp [PyData.canLayAll0]
  | n :: ns, h => by
    rw [List.all_cons, Bool.and_eq_true] at h
    simp [PyData.canLayAll0, PyData.canLay0, lay_strs ns h.2, h.1]
theorem depth_strs : ∀ ns : List Str, PyData.depthAll (ns.map PyData.str) ≤ 1
  | [] => by simp [PyData.depthAll]
  | n :: ns => by
    have := depth_strs ns
    simp only [List.map_cons, PyData.depthAll, PyData.depth]
    omega
theorem shapedS_tup (ns : List Str) (ok : ns.all PyData.strOk = true) : SeqAt.shaped (.tuple (ns.map PyData.str)) = true := by
  have h := depth_strs ns
  unfold SeqAt.shaped
  rw [Bool.and_eq_true]
  refine ⟨by simp only [PyData.canLay0]; exact lay_strs ns ok, decide_eq_true ?_⟩
  simp only [PyData.depth]
  omega
theorem shapedS_lst (ns : List Str) (ok : ns.all PyData.strOk = true) : SeqAt.shaped (.list (ns.map PyData.str)) = true := by
  have h := depth_strs ns
  unfold SeqAt.shaped
  rw [Bool.and_eq_true]
  refine ⟨by simp only [PyData.canLay0]; exact lay_strs ns ok, decide_eq_true ?_⟩
  simp only [PyData.depth]
  omega
theorem eqv_strs : ∀ ns ms : List Str, PyData.eqvAll (ns.map PyData.str) (ms.map PyData.str) = decide (ns = ms)
  | [], [] => by simp [PyData.eqvAll]
  | [], m :: ms => by simp [PyData.eqvAll]
  | n :: ns, [] => by simp [PyData.eqvAll]
  | n :: ns, m :: ms => by
    simp only [List.map_cons, PyData.eqvAll, PyData.eqv, eqv_strs ns ms]
    by_cases h : n = m
    · by_cases h2 : ns = ms <;> simp [h, h2]
    · simp [h]
theorem eqS (ns ms : List Str) (h1 : ns.all PyData.strOk = true) (h2 : ms.all PyData.strOk = true) : eqA (.lst (ns.map D.str)) (.lst (ms.map D.str)) = mret (.bl (decide (ns = ms))) := by
  show eqDat _ _ = _
  have a : toP (.lst (ns.map D.str)) = some (.list (ns.map PyData.str)) := by unfold toP; rw [toPL_strs]; rfl
  have b : toP (.lst (ms.map D.str)) = some (.list (ms.map PyData.str)) := by unfold toP; rw [toPL_strs]; rfl
  unfold eqDat
  rw [a, b]
  dsimp only
  rw [shapedS_lst _ h1, shapedS_lst _ h2, if_pos (show (true && true) = true from rfl)]
  simp only [PyData.eqv, eqv_strs]

local macro_rules | `(tactic| walk_at "sm") => `(tactic| first | assumption | exact Sm.lit200 (by decide) | (apply Sm.mul; walk_at "sm"; walk_at "sm") | (apply Sm.add2; walk_at "sm"; walk_at "sm") | (apply Sm.sub2; walk_at "sm"; walk_at "sm") | (apply Sm.neg; walk_at "sm"))
local macro_rules | `(tactic| walk_at "mo") => `(tactic| (apply mulOk_any; walk_at "sm"; walk_at "sm"; decide))
local macro_rules | `(tactic| walk_at "ds") => `(tactic| first | assumption | rfl | walk_at "mo" | decide | omega)
local macro_rules | `(tactic| walk_at "tw") => `(tactic| simp (disch := walk_at "ds") only [mdef, startL, sseq, zNx, zIf, zRet, zRetN, zEx, zBk, zCt, zRaise, zRaiseN, sasg, spar, spar3, sof_ret, sof_ok, mret_ap, mbind_ap, obind_ok, mbind_ret, mbind_bad, kC, kOp, kUn, kB, kAnd, kOr, kNot, kAndV, kOrV, kNotV, kIf, kCh, aNil, aCons, kCall, kMk, kMkV, kCmS, kMeth, kProp, kFld, iL, iT, iR1, iR2, mvar, gnm, gtm, glm, gem, gcn, gnl, asB, asL, asT, int2, int2c, addIL, addI, subI, mul_eq, fdv_eq, fdv_64, fmd_eq, ne_eq, not_false_eq_true, Int.reduceEq, Nat.reduceLeDiff, Int.reduceAdd, Int.reduceNeg, Int.reduceLT, Int.reduceLE, Int.reduceSub, Nat.reduceEqDiff, Nat.reduceLT, p9, p15, p18, p20, p30, p6, negI, ltI, leI, gtI, geI, eqA_int, eqA_bl, neA_int, neA_bl, isBo, notBo, isNo, notNo, tupD, lstD, itemD, gcdD, gcd4D, intD, absD, lenD, listD, tupleD, penGet, penPut, Pen.get, Pen.put, bagGet, bagPut, Pen.bget, Pen.bput, objPut,
  isI_ins, at0, at1, at2, isiA_int, isiA_bl, isiA_non, isiA_str, isiA_tup, isiA_lst, ii_int, ii_bool, ib_int, ib_bool, in_int, is_int, it_int, il_int, it_tuple, nox_ret,
  List.map_cons, List.map_nil, List.length_cons, List.length_nil, List.cons_append, List.nil_append, List.append_nil, List.getElem?_cons_zero, List.getElem?_cons_succ, List.set_cons_zero, List.set_cons_succ, List.replicate_succ, List.replicate_zero, Nat.reduceSub, Nat.reduceAdd, if_true, if_false, decide_eq_true_eq, Bool.not_eq_true', Bool.true_eq_false, Bool.false_eq_true, reduceIte, decide_true, decide_false, Bool.not_true, Bool.not_false, ite_true, ite_false, List.length_map, and_true, true_and, and_false, false_and, and_self, or_true, true_or, or_false, false_or, not_true_eq_false, Bool.not_eq_false, Bool.not_eq_true, decide_eq_false_iff_not, Int.sub_self, beq_self_eq_true, Bool.and_self, Bool.true_and, Bool.and_true, Bool.and_false, Bool.false_and, eq_self, mk_fo, nat1, *])
theorem eqnil : eqA (.lst []) (.lst []) = mret (.bl true) := rfl
theorem sEq (ns : List Str) (h : ns.all PyData.strOk = true) : eqA (.lst (ns.map D.str)) (.lst (ns.map D.str)) = mret (.bl true) := by
  rw [eqS _ _ h h, decide_eq_true rfl]
theorem sNil (n : Str) (ns : List Str) (h : (n :: ns).all PyData.strOk = true) : eqA (.lst ((n :: ns).map D.str)) (.lst (([] : List Str).map D.str)) = mret (.bl false) := by
  rw [eqS _ _ h rfl, decide_eq_false (fun z => nomatch z)]
theorem e6 {b1 b2 b3 : Bool} (h : (b1 && (b2 && b3)) = false) : eqA (.lst (ws b1 b2 b3)) (.lst []) = mret (.bl false) := by
  cases b1 <;> cases b2 <;> cases b3
  · exact sNil "across" ["up", "moment"] (by decide +kernel)
  · exact sNil "across" ["up"] (by decide +kernel)
  · exact sNil "across" ["moment"] (by decide +kernel)
  · exact sNil "across" [] (by decide +kernel)
  · exact sNil "up" ["moment"] (by decide +kernel)
  · exact sNil "up" [] (by decide +kernel)
  · exact sNil "moment" [] (by decide +kernel)
  · cases h
theorem e7 {b1 b2 b3 : Bool} (h : (b1 && (b2 && b3)) = false) : eqA (.lst [.str (fw b1 b2)]) (.lst (cutD (ws b1 b2 b3) none (some 1))) = mret (.bl true) := by
  have c : cutD (ws b1 b2 b3) none (some 1) = [.str (fw b1 b2)] := by
    cases b1 <;> cases b2 <;> cases b3 <;> first | rfl | cases h
  rw [c]
  exact sEq [fw b1 b2] (by cases b1 <;> cases b2 <;> decide +kernel)
theorem noe {d1 d2 d3 : D} {b1 b2 b3 : Bool} (t1 : Th d1 b1) (t2 : Th d2 b2) (t3 : Th d3 b3) : noErr (.lst [d1, d2, d3]) = true := by
  show (noErr d1 && (noErr d2 && (noErr d3 && true))) = true
  rw [t1.e, t2.e, t3.e]; rfl
theorem now {b1 b2 b3 : Bool} : noErr (.lst (ws b1 b2 b3)) = true := by
  cases b1 <;> cases b2 <;> cases b3 <;> rfl
theorem ref_bad {d1 d2 d3 : D} {b1 b2 b3 : Bool} (t1 : Th d1 b1) (t2 : Th d2 b2) (t3 : Th d3 b3) (h : (b1 && (b2 && b3)) = false) (n : Int) (s : Pen) :
    (sseq b__law_refusals_5 (sseq b__law_refusals_6 b__law_refusals_7)) [some .pen, some (.lst [d1, d2, d3]), some (.int 2), some wrd, some (.lst (ws b1 b2 b3)), some (.lst []), some .non, none, some (.int n)] s = .ret (.bl true) s := by
  have tb : tb__law_refusals_2 [some .pen, some (.lst [d1, d2, d3]), some (.int 2), some wrd, some (.lst (ws b1 b2 b3)), some (.lst []), some .non, none, some (.int n)] s = .exc 2 ["what"] [.str (fw b1 b2)] [some .pen, some (.lst [d1, d2, d3]), some (.int 2), some wrd, some (.lst (ws b1 b2 b3)), some (.lst []), some .non, none, some (.int n)] s := by
    show sof (mkD 7 m_Force___init__ [d1, d2, d3] s) _ _ = _
    rw [mk_bad t1 t2 t3 h]
    rfl
  have hb : hb__law_refusals_3 [some .pen, some (.lst [d1, d2, d3]), some (.int 2), some wrd, some (.lst (ws b1 b2 b3)), some (.lst []), some .non, some (.err 2 ["what"] [.str (fw b1 b2)]), some (.int n)] s = .nx [some .pen, some (.lst [d1, d2, d3]), some (.int 2), some wrd, some (.lst (ws b1 b2 b3)), some (.lst [.str (fw b1 b2)]), some .non, some (.err 2 ["what"] [.str (fw b1 b2)]), some (.int n)] s := rfl
  have p5 : b__law_refusals_5 [some .pen, some (.lst [d1, d2, d3]), some (.int 2), some wrd, some (.lst (ws b1 b2 b3)), some (.lst []), some .non, none, some (.int n)] s = .nx [some .pen, some (.lst [d1, d2, d3]), some (.int 2), some wrd, some (.lst (ws b1 b2 b3)), some (.lst [.str (fw b1 b2)]), some .non, none, some (.int n)] s := by
    unfold b__law_refusals_5 oA sTry
    rw [tb]
    show backOf 7 (hb__law_refusals_3 [some .pen, some (.lst [d1, d2, d3]), some (.int 2), some wrd, some (.lst (ws b1 b2 b3)), some (.lst []), some .non, some (.err 2 ["what"] [.str (fw b1 b2)]), some (.int n)] s) = _
    rw [hb]
    show OutS.nx (clean [some .pen, some (.lst [d1, d2, d3]), some (.int 2), some wrd, some (.lst (ws b1 b2 b3)), some (.lst [.str (fw b1 b2)]), some .non, none, some (.int n)]) s = _
    have c1 : cleanD (some (.lst [d1, d2, d3])) = some (.lst [d1, d2, d3]) := by
      show (if noErr (.lst [d1, d2, d3]) = true then _ else _) = _
      rw [if_pos (noe t1 t2 t3)]
    have c2 : cleanD (some (.lst (ws b1 b2 b3))) = some (.lst (ws b1 b2 b3)) := by
      show (if noErr (.lst (ws b1 b2 b3)) = true then _ else _) = _
      rw [if_pos now]
    show OutS.nx [some .pen, cleanD (some (.lst [d1, d2, d3])), some (.int 2), some wrd, cleanD (some (.lst (ws b1 b2 b3))), some (.lst [.str (fw b1 b2)]), some .non, none, some (.int n)] s = _
    rw [c1, c2]
  rw [sseq_nx p5]
  have p6 : b__law_refusals_6 [some .pen, some (.lst [d1, d2, d3]), some (.int 2), some wrd, some (.lst (ws b1 b2 b3)), some (.lst [.str (fw b1 b2)]), some .non, none, some (.int n)] s = .nx [some .pen, some (.lst [d1, d2, d3]), some (.int 2), some wrd, some (.lst (ws b1 b2 b3)), some (.lst [.str (fw b1 b2)]), some .non, none, some (.int n)] s := by
    unfold b__law_refusals_6
    show sof (obind (eqA (.lst (ws b1 b2 b3)) (.lst []) s) asB) _ _ = _
    rw [e6 h]
    rfl
  rw [sseq_nx p6]
  show sof (eqA (.lst [.str (fw b1 b2)]) (.lst (cutD (ws b1 b2 b3) none (some 1))) s) _ _ = _
  rw [e7 h]
  rfl
theorem tb_eq (d1 d2 d3 : D) (x2 x3 x4 x5 x6 x7 x8 : Option D) (s : Pen) : tb__law_refusals_2 [some .pen, some (.lst [d1, d2, d3]), x2, x3, x4, x5, x6, x7, x8] s = sof (mkD 7 m_Force___init__ [d1, d2, d3] s) [some .pen, some (.lst [d1, d2, d3]), x2, x3, x4, x5, x6, x7, x8] (fun d s' => match gnm 6 d [some .pen, some (.lst [d1, d2, d3]), x2, x3, x4, x5, x6, x7, x8] with | some ρ' => .nx ρ' s' | none => .bad) := rfl
theorem ref_good (x y z n : Int) (s : Pen) :
    (sseq b__law_refusals_5 (sseq b__law_refusals_6 b__law_refusals_7)) [some .pen, some (til x y z), some (.int 2), some wrd, some (.lst []), some (.lst []), some .non, none, some (.int n)] s = .ret (.bl true) s := by
  have p5 : b__law_refusals_5 [some .pen, some (til x y z), some (.int 2), some wrd, some (.lst []), some (.lst []), some .non, none, some (.int n)] s = .nx [some .pen, some (til x y z), some (.int 2), some wrd, some (.lst []), some (.lst []), some (fo x y z), none, some (.int n)] s := by
    have tb : tb__law_refusals_2 [some .pen, some (til x y z), some (.int 2), some wrd, some (.lst []), some (.lst []), some .non, none, some (.int n)] s = .nx [some .pen, some (til x y z), some (.int 2), some wrd, some (.lst []), some (.lst []), some (fo x y z), none, some (.int n)] s := by
      rw [tb_eq, mk_fo]
      rfl
    unfold b__law_refusals_5 oA sTry
    rw [tb]
  rw [sseq_nx p5]
  have r := right_eq x y z x y z (til x y z) (.inr rfl) rfl rfl rfl
  have p6 : b__law_refusals_6 [some .pen, some (til x y z), some (.int 2), some wrd, some (.lst []), some (.lst []), some (fo x y z), none, some (.int n)] s = .ret (.bl true) s := by
    unfold b__law_refusals_6
    have q := eqnil
    walk_at "tw"
  rw [sseq_ret p6]
theorem refusals_ok (s : Pen) : ∃ s', m__law_refusals [.pen] s = .ok (.bl true) s' := by
  obtain ⟨d1, b1, d2, b2, d3, b3, n, s1, e, t1, t2, t3⟩ := ref0 s
  refine ⟨s1, mdef_ret ?_⟩
  show sseq b__law_refusals_0 _ [some .pen, none, none, none, none, none, none, none, none] s = _
  rw [sseq_nx e]
  have p1 : b__law_refusals_1 [some .pen, some (.lst [d1, d2, d3]), some (.int 2), none, none, none, none, none, some (.int n)] s1 = .nx [some .pen, some (.lst [d1, d2, d3]), some (.int 2), some wrd, none, none, none, none, some (.int n)] s1 := rfl
  have p2 : b__law_refusals_2 [some .pen, some (.lst [d1, d2, d3]), some (.int 2), some wrd, none, none, none, none, some (.int n)] s1 = .nx [some .pen, some (.lst [d1, d2, d3]), some (.int 2), some wrd, some (.lst (ws b1 b2 b3)), none, none, none, some (.int n)] s1 := by
    unfold b__law_refusals_2 sasg
    rw [comp_w t1 t2 t3]
    rfl
  have p3 : b__law_refusals_3 [some .pen, some (.lst [d1, d2, d3]), some (.int 2), some wrd, some (.lst (ws b1 b2 b3)), none, none, none, some (.int n)] s1 = .nx [some .pen, some (.lst [d1, d2, d3]), some (.int 2), some wrd, some (.lst (ws b1 b2 b3)), some (.lst []), none, none, some (.int n)] s1 := rfl
  have p4 : b__law_refusals_4 [some .pen, some (.lst [d1, d2, d3]), some (.int 2), some wrd, some (.lst (ws b1 b2 b3)), some (.lst []), none, none, some (.int n)] s1 = .nx [some .pen, some (.lst [d1, d2, d3]), some (.int 2), some wrd, some (.lst (ws b1 b2 b3)), some (.lst []), some .non, none, some (.int n)] s1 := rfl
  rw [sseq_nx p1, sseq_nx p2, sseq_nx p3, sseq_nx p4]
  by_cases h : (b1 && (b2 && b3)) = false
  · exact ref_bad t1 t2 t3 h n s1
  · have h' : b1 = true ∧ b2 = true ∧ b3 = true := by
      cases b1 <;> cases b2 <;> cases b3 <;> first | exact ⟨rfl, rfl, rfl⟩ | exact absurd rfl h
    obtain ⟨rfl, rfl, rfl⟩ := h'
    obtain ⟨x, rfl⟩ := t1.i rfl
    obtain ⟨y, rfl⟩ := t2.i rfl
    obtain ⟨z, rfl⟩ := t3.i rfl
    exact ref_good x y z n s1
theorem good (s : Pen) : ∃ s', b_law ρ0 s = .ret (.bl true) s' := by
  obtain ⟨a, b, c, s1, e1, ha, hb, hc⟩ := numbers_ok s
  obtain ⟨p, q, r, s2, e2, hp, hq, hr⟩ := numbers_ok s1
  obtain ⟨k, s3, e3, hk, _⟩ := number_ok s2
  have g := signs_ok a b c p q r k (mulOk_any hp hk (by decide)) (mulOk_any hq hk (by decide)) (mulOk_any hr hk (by decide))
  obtain ⟨s4, e4⟩ := equal_ok a b c s3
  obtain ⟨s5, e5⟩ := about_law a b c p q r s4 ha hb hc hp hq hr
  obtain ⟨s6, e6⟩ := refusals_ok s5
  clear ha hb hc hp hq hr hk
  refine ⟨s6, ?_⟩
  have p0 : b_law_0 [none, some .pen, none, none] s = .nx [none, some .pen, some (tri a b c), none] s1 := by
    clear e2 e3 e4 e5 e6 g
    unfold b_law_0
    walk_at "tw"
  have p1 : b_law_1 [none, some .pen, some (tri a b c), none] s1 = .nx [none, some .pen, some (tri a b c), some (tri p q r)] s2 := by
    clear e1 e3 e4 e5 e6 g p0
    unfold b_law_1
    walk_at "tw"
  have p2 : b_law_2 [none, some .pen, some (tri a b c), some (tri p q r)] s2 = .nx [none, some .pen, some (tri a b c), some (tri p q r)] s4 := by
    clear e1 e2 e5 e6 p0 p1
    unfold b_law_2
    walk_at "tw"
  have p3 : b_law_3 [none, some .pen, some (tri a b c), some (tri p q r)] s4 = .ret (.bl true) s6 := by
    clear e1 e2 e3 e4 g p0 p1 p2
    unfold b_law_3
    walk_at "tw"
  show sseq b_law_0 _ [none, some .pen, none, none] s = _
  rw [sseq_nx p0, sseq_nx p1, sseq_nx p2, p3]
end K02

set_option Elab.async false
set_option linter.all false
set_option maxRecDepth 100000
set_option maxHeartbeats 4000000
set_option autoImplicit false
namespace K02
open PySem L2 PySem.Spec PyProof.Rows Tw
theorem all_mk {l : PySem.W.OpenLaw} {w : World} {K : PySem.W.Frag} {h : Heap} {mg : Str → Option Value} {fa : Addr} (X : K.In h) (G : h.Ns mainGlobals mg) (hfa : mg "law" = some (.ref fa))
    {f__law_take : Addr}
    {od__law_take an__law_take : Option Addr}
    {sl__law_take : Array (Option Value)}
    {oc__law_take kV__law_take dc__law_take pm__law_take cd__law_take ct__law_take : Value}
    {f__law_of : Addr}
    {od__law_of an__law_of : Option Addr}
    {sl__law_of : Array (Option Value)}
    {oc__law_of kV__law_of dc__law_of pm__law_of cd__law_of ct__law_of : Value}
    {f__law_number : Addr}
    {od__law_number an__law_number : Option Addr}
    {sl__law_number : Array (Option Value)}
    {oc__law_number kV__law_number dc__law_number pm__law_number cd__law_number ct__law_number : Value}
    {f__law_is_number : Addr}
    {od__law_is_number an__law_is_number : Option Addr}
    {sl__law_is_number : Array (Option Value)}
    {oc__law_is_number kV__law_is_number dc__law_is_number pm__law_is_number cd__law_is_number ct__law_is_number : Value}
    {f__law_numbers : Addr}
    {od__law_numbers an__law_numbers : Option Addr}
    {sl__law_numbers : Array (Option Value)}
    {oc__law_numbers kV__law_numbers dc__law_numbers pm__law_numbers cd__law_numbers ct__law_numbers : Value}
    {f__law_right : Addr}
    {od__law_right an__law_right : Option Addr}
    {sl__law_right : Array (Option Value)}
    {oc__law_right kV__law_right dc__law_right pm__law_right cd__law_right ct__law_right : Value}
    {f__law_moment : Addr}
    {od__law_moment an__law_moment : Option Addr}
    {sl__law_moment : Array (Option Value)}
    {oc__law_moment kV__law_moment dc__law_moment pm__law_moment cd__law_moment ct__law_moment : Value}
    {f_is_number : Addr}
    {od_is_number an_is_number : Option Addr}
    {sl_is_number : Array (Option Value)}
    {oc_is_number kV_is_number dc_is_number pm_is_number cd_is_number ct_is_number : Value}
    {f_Force___init__ : Addr}
    {od_Force___init__ an_Force___init__ : Option Addr}
    {sl_Force___init__ : Array (Option Value)}
    {oc_Force___init__ kV_Force___init__ dc_Force___init__ pm_Force___init__ cd_Force___init__ ct_Force___init__ : Value}
    {f__law_refusals : Addr}
    {od__law_refusals an__law_refusals : Option Addr}
    {sl__law_refusals : Array (Option Value)}
    {oc__law_refusals kV__law_refusals dc__law_refusals pm__law_refusals cd__law_refusals ct__law_refusals : Value}
    {f_Force___sub__ : Addr}
    {od_Force___sub__ an_Force___sub__ : Option Addr}
    {sl_Force___sub__ : Array (Option Value)}
    {oc_Force___sub__ kV_Force___sub__ dc_Force___sub__ pm_Force___sub__ cd_Force___sub__ ct_Force___sub__ : Value}
    {f_Force___add__ : Addr}
    {od_Force___add__ an_Force___add__ : Option Addr}
    {sl_Force___add__ : Array (Option Value)}
    {oc_Force___add__ kV_Force___add__ dc_Force___add__ pm_Force___add__ cd_Force___add__ ct_Force___add__ : Value}
    {f_Force___mul__ : Addr}
    {od_Force___mul__ an_Force___mul__ : Option Addr}
    {sl_Force___mul__ : Array (Option Value)}
    {oc_Force___mul__ kV_Force___mul__ dc_Force___mul__ pm_Force___mul__ cd_Force___mul__ ct_Force___mul__ : Value}
    {f_Force___neg__ : Addr}
    {od_Force___neg__ an_Force___neg__ : Option Addr}
    {sl_Force___neg__ : Array (Option Value)}
    {oc_Force___neg__ kV_Force___neg__ dc_Force___neg__ pm_Force___neg__ cd_Force___neg__ ct_Force___neg__ : Value}
    {f_Force_none : Addr}
    {od_Force_none an_Force_none : Option Addr}
    {sl_Force_none : Array (Option Value)}
    {oc_Force_none kV_Force_none dc_Force_none pm_Force_none cd_Force_none ct_Force_none : Value}
    {f_Force_is_none : Addr}
    {od_Force_is_none an_Force_is_none : Option Addr}
    {sl_Force_is_none : Array (Option Value)}
    {oc_Force_is_none kV_Force_is_none dc_Force_is_none pm_Force_is_none cd_Force_is_none ct_Force_is_none : Value}
    {f__law_signs : Addr}
    {od__law_signs an__law_signs : Option Addr}
    {sl__law_signs : Array (Option Value)}
    {oc__law_signs kV__law_signs dc__law_signs pm__law_signs cd__law_signs ct__law_signs : Value}
    {f_Force___eq__ : Addr}
    {od_Force___eq__ an_Force___eq__ : Option Addr}
    {sl_Force___eq__ : Array (Option Value)}
    {oc_Force___eq__ kV_Force___eq__ dc_Force___eq__ pm_Force___eq__ cd_Force___eq__ ct_Force___eq__ : Value}
    {f_is_row : Addr}
    {od_is_row an_is_row : Option Addr}
    {sl_is_row : Array (Option Value)}
    {oc_is_row kV_is_row dc_is_row pm_is_row cd_is_row ct_is_row : Value}
    {f_Load___init__ : Addr}
    {od_Load___init__ an_Load___init__ : Option Addr}
    {sl_Load___init__ : Array (Option Value)}
    {oc_Load___init__ kV_Load___init__ dc_Load___init__ pm_Load___init__ cd_Load___init__ ct_Load___init__ : Value}
    {f_Thrust___init__ : Addr}
    {od_Thrust___init__ an_Thrust___init__ : Option Addr}
    {sl_Thrust___init__ : Array (Option Value)}
    {oc_Thrust___init__ kV_Thrust___init__ dc_Thrust___init__ pm_Thrust___init__ cd_Thrust___init__ ct_Thrust___init__ : Value}
    {T_Thrust___init__ : Addr}
    {toc_Thrust___init__ : Value}
    {tod_Thrust___init__ : Option Addr}
    {tsl_Thrust___init__ : Array (Option Value)}
    {tn_Thrust___init__ : Nat}
    {ttk0_Thrust___init__ : Tok}
    {f__law_equal : Addr}
    {od__law_equal an__law_equal : Option Addr}
    {sl__law_equal : Array (Option Value)}
    {oc__law_equal kV__law_equal dc__law_equal pm__law_equal cd__law_equal ct__law_equal : Value}
    {f_Force_about : Addr}
    {od_Force_about an_Force_about : Option Addr}
    {sl_Force_about : Array (Option Value)}
    {oc_Force_about kV_Force_about dc_Force_about pm_Force_about cd_Force_about ct_Force_about : Value}
    {f_Force_acting : Addr}
    {od_Force_acting an_Force_acting : Option Addr}
    {sl_Force_acting : Array (Option Value)}
    {oc_Force_acting kV_Force_acting dc_Force_acting pm_Force_acting cd_Force_acting ct_Force_acting : Value}
    {f_Force_hanging : Addr}
    {od_Force_hanging an_Force_hanging : Option Addr}
    {sl_Force_hanging : Array (Option Value)}
    {oc_Force_hanging kV_Force_hanging dc_Force_hanging pm_Force_hanging cd_Force_hanging ct_Force_hanging : Value}
    {f__law_about : Addr}
    {od__law_about an__law_about : Option Addr}
    {sl__law_about : Array (Option Value)}
    {oc__law_about kV__law_about dc__law_about pm__law_about cd__law_about ct__law_about : Value}
    {f__law_pen : Addr}
    {od__law_pen an__law_pen : Option Addr}
    {sl__law_pen : Array (Option Value)}
    {oc__law_pen kV__law_pen dc__law_pen pm__law_pen cd__law_pen ct__law_pen : Value}
    {f_law : Addr}
    {od_law an_law : Option Addr}
    {sl_law : Array (Option Value)}
    {oc_law kV_law dc_law pm_law cd_law ct_law : Value}
    {C_BridgeError : Addr}
    {C_BadRatio : Addr}
    {C_BadForce : Addr}
    {C_BadLoad : Addr}
    {C_OtherSize : Addr}
    {C_NoStone : Addr}
    {C_BadThrust : Addr}
    {C_Force : Addr}
    {C_Load : Addr}
    {C_Thrust : Addr}
    {fo_Force___mul__ ro_Force___mul__ : Option Value}
    {P_Force_is_none : Addr}
    {re_Force_is_none : List Value}
    {P_Force_none : Addr}
    {re_Force_none : List Value}
    {P_Force_acting : Addr}
    {re_Force_acting : List Value}
    {P_Force_hanging : Addr}
    {re_Force_hanging : List Value}
    {I_BadForce : Addr}
    {odi_BadForce ani_BadForce : Option Addr}
    {sli_BadForce : Array (Option Value)}
    {oci_BadForce kVi_BadForce dci_BadForce pmi_BadForce cdi_BadForce cti_BadForce : Value}
    {nm_BadForce qn_BadForce : Str} {N_BadForce : Addr} {bs_BadForce bm_BadForce : List Value} {sn_BadForce : List Str} {sub_BadForce : List Value} {ab_BadForce : Bool} {col_BadForce : Option Bool} {dd_BadForce : Option Addr} {k0_BadForce k1_BadForce k2_BadForce k3_BadForce k5_BadForce : Option Value}
    {I_BadLoad : Addr}
    {odi_BadLoad ani_BadLoad : Option Addr}
    {sli_BadLoad : Array (Option Value)}
    {oci_BadLoad kVi_BadLoad dci_BadLoad pmi_BadLoad cdi_BadLoad cti_BadLoad : Value}
    {nm_BadLoad qn_BadLoad : Str} {N_BadLoad : Addr} {bs_BadLoad bm_BadLoad : List Value} {sn_BadLoad : List Str} {sub_BadLoad : List Value} {ab_BadLoad : Bool} {col_BadLoad : Option Bool} {dd_BadLoad : Option Addr} {k0_BadLoad k1_BadLoad k2_BadLoad k3_BadLoad k5_BadLoad : Option Value}
    {I_BadThrust : Addr}
    {odi_BadThrust ani_BadThrust : Option Addr}
    {sli_BadThrust : Array (Option Value)}
    {oci_BadThrust kVi_BadThrust dci_BadThrust pmi_BadThrust cdi_BadThrust cti_BadThrust : Value}
    {nm_BadThrust qn_BadThrust : Str} {N_BadThrust : Addr} {bs_BadThrust bm_BadThrust : List Value} {sn_BadThrust : List Str} {sub_BadThrust : List Value} {ab_BadThrust : Bool} {col_BadThrust : Option Bool} {dd_BadThrust : Option Addr} {k0_BadThrust k1_BadThrust k2_BadThrust k3_BadThrust k5_BadThrust : Option Value}
    {tk_MOST_STONES : Tok}
    (a__law_take : PySem.W.nsIn K mainGlobals "_law_take" = some (some (.ref f__law_take)))
    (l__law_take : K.lookup f__law_take = some ⟨oc__law_take, od__law_take, .func (PySem.W.fnOf "_law_take" "_law_take" (defArgs s__law_take) (defBody s__law_take) (defScope s__law_take) .none kV__law_take dc__law_take pm__law_take an__law_take cd__law_take ct__law_take), sl__law_take⟩)
    (c__law_take : PySem.W.codeIn K cd__law_take "_law_take" = true)
    (k__law_take : PySem.W.keepIn K (.ref f__law_take) = true)
    (a__law_of : PySem.W.nsIn K mainGlobals "_law_of" = some (some (.ref f__law_of)))
    (l__law_of : K.lookup f__law_of = some ⟨oc__law_of, od__law_of, .func (PySem.W.fnOf "_law_of" "_law_of" (defArgs s__law_of) (defBody s__law_of) (defScope s__law_of) .none kV__law_of dc__law_of pm__law_of an__law_of cd__law_of ct__law_of), sl__law_of⟩)
    (c__law_of : PySem.W.codeIn K cd__law_of "_law_of" = true)
    (k__law_of : PySem.W.keepIn K (.ref f__law_of) = true)
    (a__law_number : PySem.W.nsIn K mainGlobals "_law_number" = some (some (.ref f__law_number)))
    (l__law_number : K.lookup f__law_number = some ⟨oc__law_number, od__law_number, .func (PySem.W.fnOf "_law_number" "_law_number" (defArgs s__law_number) (defBody s__law_number) (defScope s__law_number) .none kV__law_number dc__law_number pm__law_number an__law_number cd__law_number ct__law_number), sl__law_number⟩)
    (c__law_number : PySem.W.codeIn K cd__law_number "_law_number" = true)
    (k__law_number : PySem.W.keepIn K (.ref f__law_number) = true)
    (a__law_is_number : PySem.W.nsIn K mainGlobals "_law_is_number" = some (some (.ref f__law_is_number)))
    (l__law_is_number : K.lookup f__law_is_number = some ⟨oc__law_is_number, od__law_is_number, .func (PySem.W.fnOf "_law_is_number" "_law_is_number" (defArgs s__law_is_number) (defBody s__law_is_number) (defScope s__law_is_number) .none kV__law_is_number dc__law_is_number pm__law_is_number an__law_is_number cd__law_is_number ct__law_is_number), sl__law_is_number⟩)
    (c__law_is_number : PySem.W.codeIn K cd__law_is_number "_law_is_number" = true)
    (k__law_is_number : PySem.W.keepIn K (.ref f__law_is_number) = true)
    (a__law_numbers : PySem.W.nsIn K mainGlobals "_law_numbers" = some (some (.ref f__law_numbers)))
    (l__law_numbers : K.lookup f__law_numbers = some ⟨oc__law_numbers, od__law_numbers, .func (PySem.W.fnOf "_law_numbers" "_law_numbers" (defArgs s__law_numbers) (defBody s__law_numbers) (defScope s__law_numbers) .none kV__law_numbers dc__law_numbers pm__law_numbers an__law_numbers cd__law_numbers ct__law_numbers), sl__law_numbers⟩)
    (c__law_numbers : PySem.W.codeIn K cd__law_numbers "_law_numbers" = true)
    (k__law_numbers : PySem.W.keepIn K (.ref f__law_numbers) = true)
    (a__law_right : PySem.W.nsIn K mainGlobals "_law_right" = some (some (.ref f__law_right)))
    (l__law_right : K.lookup f__law_right = some ⟨oc__law_right, od__law_right, .func (PySem.W.fnOf "_law_right" "_law_right" (defArgs s__law_right) (defBody s__law_right) (defScope s__law_right) .none kV__law_right dc__law_right pm__law_right an__law_right cd__law_right ct__law_right), sl__law_right⟩)
    (c__law_right : PySem.W.codeIn K cd__law_right "_law_right" = true)
    (k__law_right : PySem.W.keepIn K (.ref f__law_right) = true)
    (a__law_moment : PySem.W.nsIn K mainGlobals "_law_moment" = some (some (.ref f__law_moment)))
    (l__law_moment : K.lookup f__law_moment = some ⟨oc__law_moment, od__law_moment, .func (PySem.W.fnOf "_law_moment" "_law_moment" (defArgs s__law_moment) (defBody s__law_moment) (defScope s__law_moment) .none kV__law_moment dc__law_moment pm__law_moment an__law_moment cd__law_moment ct__law_moment), sl__law_moment⟩)
    (c__law_moment : PySem.W.codeIn K cd__law_moment "_law_moment" = true)
    (k__law_moment : PySem.W.keepIn K (.ref f__law_moment) = true)
    (a_is_number : PySem.W.nsIn K mainGlobals "is_number" = some (some (.ref f_is_number)))
    (l_is_number : K.lookup f_is_number = some ⟨oc_is_number, od_is_number, .func (PySem.W.fnOf "is_number" "is_number" (defArgs s_is_number) (defBody s_is_number) (defScope s_is_number) .none kV_is_number dc_is_number pm_is_number an_is_number cd_is_number ct_is_number), sl_is_number⟩)
    (c_is_number : PySem.W.codeIn K cd_is_number "is_number" = true)
    (k_is_number : PySem.W.keepIn K (.ref f_is_number) = true)
    (l_Force___init__ : K.lookup f_Force___init__ = some ⟨oc_Force___init__, od_Force___init__, .func (PySem.W.fnOf "__init__" "Force.__init__" (defArgs s_Force___init__) (defBody s_Force___init__) (defScope s_Force___init__) .none kV_Force___init__ dc_Force___init__ pm_Force___init__ an_Force___init__ cd_Force___init__ ct_Force___init__), sl_Force___init__⟩)
    (c_Force___init__ : PySem.W.codeIn K cd_Force___init__ "Force.__init__" = true)
    (k_Force___init__ : PySem.W.keepIn K (.ref f_Force___init__) = true)
    (a__law_refusals : PySem.W.nsIn K mainGlobals "_law_refusals" = some (some (.ref f__law_refusals)))
    (l__law_refusals : K.lookup f__law_refusals = some ⟨oc__law_refusals, od__law_refusals, .func (PySem.W.fnOf "_law_refusals" "_law_refusals" (defArgs s__law_refusals) (defBody s__law_refusals) (defScope s__law_refusals) .none kV__law_refusals dc__law_refusals pm__law_refusals an__law_refusals cd__law_refusals ct__law_refusals), sl__law_refusals⟩)
    (c__law_refusals : PySem.W.codeIn K cd__law_refusals "_law_refusals" = true)
    (k__law_refusals : PySem.W.keepIn K (.ref f__law_refusals) = true)
    (l_Force___sub__ : K.lookup f_Force___sub__ = some ⟨oc_Force___sub__, od_Force___sub__, .func (PySem.W.fnOf "__sub__" "Force.__sub__" (defArgs s_Force___sub__) (defBody s_Force___sub__) (defScope s_Force___sub__) .none kV_Force___sub__ dc_Force___sub__ pm_Force___sub__ an_Force___sub__ cd_Force___sub__ ct_Force___sub__), sl_Force___sub__⟩)
    (c_Force___sub__ : PySem.W.codeIn K cd_Force___sub__ "Force.__sub__" = true)
    (k_Force___sub__ : PySem.W.keepIn K (.ref f_Force___sub__) = true)
    (l_Force___add__ : K.lookup f_Force___add__ = some ⟨oc_Force___add__, od_Force___add__, .func (PySem.W.fnOf "__add__" "Force.__add__" (defArgs s_Force___add__) (defBody s_Force___add__) (defScope s_Force___add__) .none kV_Force___add__ dc_Force___add__ pm_Force___add__ an_Force___add__ cd_Force___add__ ct_Force___add__), sl_Force___add__⟩)
    (c_Force___add__ : PySem.W.codeIn K cd_Force___add__ "Force.__add__" = true)
    (k_Force___add__ : PySem.W.keepIn K (.ref f_Force___add__) = true)
    (l_Force___mul__ : K.lookup f_Force___mul__ = some ⟨oc_Force___mul__, od_Force___mul__, .func (PySem.W.fnOf "__mul__" "Force.__mul__" (defArgs s_Force___mul__) (defBody s_Force___mul__) (defScope s_Force___mul__) .none kV_Force___mul__ dc_Force___mul__ pm_Force___mul__ an_Force___mul__ cd_Force___mul__ ct_Force___mul__), sl_Force___mul__⟩)
    (c_Force___mul__ : PySem.W.codeIn K cd_Force___mul__ "Force.__mul__" = true)
    (k_Force___mul__ : PySem.W.keepIn K (.ref f_Force___mul__) = true)
    (l_Force___neg__ : K.lookup f_Force___neg__ = some ⟨oc_Force___neg__, od_Force___neg__, .func (PySem.W.fnOf "__neg__" "Force.__neg__" (defArgs s_Force___neg__) (defBody s_Force___neg__) (defScope s_Force___neg__) .none kV_Force___neg__ dc_Force___neg__ pm_Force___neg__ an_Force___neg__ cd_Force___neg__ ct_Force___neg__), sl_Force___neg__⟩)
    (c_Force___neg__ : PySem.W.codeIn K cd_Force___neg__ "Force.__neg__" = true)
    (k_Force___neg__ : PySem.W.keepIn K (.ref f_Force___neg__) = true)
    (l_Force_none : K.lookup f_Force_none = some ⟨oc_Force_none, od_Force_none, .func (PySem.W.fnOf "none" "Force.none" (defArgs s_Force_none) (defBody s_Force_none) (defScope s_Force_none) .none kV_Force_none dc_Force_none pm_Force_none an_Force_none cd_Force_none ct_Force_none), sl_Force_none⟩)
    (c_Force_none : PySem.W.codeIn K cd_Force_none "Force.none" = true)
    (k_Force_none : PySem.W.keepIn K (.ref f_Force_none) = true)
    (l_Force_is_none : K.lookup f_Force_is_none = some ⟨oc_Force_is_none, od_Force_is_none, .func (PySem.W.fnOf "is_none" "Force.is_none" (defArgs s_Force_is_none) (defBody s_Force_is_none) (defScope s_Force_is_none) .none kV_Force_is_none dc_Force_is_none pm_Force_is_none an_Force_is_none cd_Force_is_none ct_Force_is_none), sl_Force_is_none⟩)
    (c_Force_is_none : PySem.W.codeIn K cd_Force_is_none "Force.is_none" = true)
    (k_Force_is_none : PySem.W.keepIn K (.ref f_Force_is_none) = true)
    (a__law_signs : PySem.W.nsIn K mainGlobals "_law_signs" = some (some (.ref f__law_signs)))
    (l__law_signs : K.lookup f__law_signs = some ⟨oc__law_signs, od__law_signs, .func (PySem.W.fnOf "_law_signs" "_law_signs" (defArgs s__law_signs) (defBody s__law_signs) (defScope s__law_signs) .none kV__law_signs dc__law_signs pm__law_signs an__law_signs cd__law_signs ct__law_signs), sl__law_signs⟩)
    (c__law_signs : PySem.W.codeIn K cd__law_signs "_law_signs" = true)
    (k__law_signs : PySem.W.keepIn K (.ref f__law_signs) = true)
    (l_Force___eq__ : K.lookup f_Force___eq__ = some ⟨oc_Force___eq__, od_Force___eq__, .func (PySem.W.fnOf "__eq__" "Force.__eq__" (defArgs s_Force___eq__) (defBody s_Force___eq__) (defScope s_Force___eq__) .none kV_Force___eq__ dc_Force___eq__ pm_Force___eq__ an_Force___eq__ cd_Force___eq__ ct_Force___eq__), sl_Force___eq__⟩)
    (c_Force___eq__ : PySem.W.codeIn K cd_Force___eq__ "Force.__eq__" = true)
    (k_Force___eq__ : PySem.W.keepIn K (.ref f_Force___eq__) = true)
    (a_is_row : PySem.W.nsIn K mainGlobals "is_row" = some (some (.ref f_is_row)))
    (l_is_row : K.lookup f_is_row = some ⟨oc_is_row, od_is_row, .func (PySem.W.fnOf "is_row" "is_row" (defArgs s_is_row) (defBody s_is_row) (defScope s_is_row) .none kV_is_row dc_is_row pm_is_row an_is_row cd_is_row ct_is_row), sl_is_row⟩)
    (c_is_row : PySem.W.codeIn K cd_is_row "is_row" = true)
    (k_is_row : PySem.W.keepIn K (.ref f_is_row) = true)
    (l_Load___init__ : K.lookup f_Load___init__ = some ⟨oc_Load___init__, od_Load___init__, .func (PySem.W.fnOf "__init__" "Load.__init__" (defArgs s_Load___init__) (defBody s_Load___init__) (defScope s_Load___init__) .none kV_Load___init__ dc_Load___init__ pm_Load___init__ an_Load___init__ cd_Load___init__ ct_Load___init__), sl_Load___init__⟩)
    (c_Load___init__ : PySem.W.codeIn K cd_Load___init__ "Load.__init__" = true)
    (k_Load___init__ : PySem.W.keepIn K (.ref f_Load___init__) = true)
    (l_Thrust___init__ : K.lookup f_Thrust___init__ = some ⟨oc_Thrust___init__, od_Thrust___init__, .func (PySem.W.fnOf "__init__" "Thrust.__init__" (defArgs s_Thrust___init__) (defBody s_Thrust___init__) (defScope s_Thrust___init__) (.ref T_Thrust___init__) kV_Thrust___init__ dc_Thrust___init__ pm_Thrust___init__ an_Thrust___init__ cd_Thrust___init__ ct_Thrust___init__), sl_Thrust___init__⟩)
    (c_Thrust___init__ : PySem.W.codeIn K cd_Thrust___init__ "Thrust.__init__" = true)
    (k_Thrust___init__ : PySem.W.keepIn K (.ref f_Thrust___init__) = true)
    (lt_Thrust___init__ : K.lookup T_Thrust___init__ = some ⟨toc_Thrust___init__, tod_Thrust___init__, .seq ([.int 1 ttk0_Thrust___init__]).toArray tn_Thrust___init__, tsl_Thrust___init__⟩)
    (a__law_equal : PySem.W.nsIn K mainGlobals "_law_equal" = some (some (.ref f__law_equal)))
    (l__law_equal : K.lookup f__law_equal = some ⟨oc__law_equal, od__law_equal, .func (PySem.W.fnOf "_law_equal" "_law_equal" (defArgs s__law_equal) (defBody s__law_equal) (defScope s__law_equal) .none kV__law_equal dc__law_equal pm__law_equal an__law_equal cd__law_equal ct__law_equal), sl__law_equal⟩)
    (c__law_equal : PySem.W.codeIn K cd__law_equal "_law_equal" = true)
    (k__law_equal : PySem.W.keepIn K (.ref f__law_equal) = true)
    (l_Force_about : K.lookup f_Force_about = some ⟨oc_Force_about, od_Force_about, .func (PySem.W.fnOf "about" "Force.about" (defArgs s_Force_about) (defBody s_Force_about) (defScope s_Force_about) .none kV_Force_about dc_Force_about pm_Force_about an_Force_about cd_Force_about ct_Force_about), sl_Force_about⟩)
    (c_Force_about : PySem.W.codeIn K cd_Force_about "Force.about" = true)
    (k_Force_about : PySem.W.keepIn K (.ref f_Force_about) = true)
    (l_Force_acting : K.lookup f_Force_acting = some ⟨oc_Force_acting, od_Force_acting, .func (PySem.W.fnOf "acting" "Force.acting" (defArgs s_Force_acting) (defBody s_Force_acting) (defScope s_Force_acting) .none kV_Force_acting dc_Force_acting pm_Force_acting an_Force_acting cd_Force_acting ct_Force_acting), sl_Force_acting⟩)
    (c_Force_acting : PySem.W.codeIn K cd_Force_acting "Force.acting" = true)
    (k_Force_acting : PySem.W.keepIn K (.ref f_Force_acting) = true)
    (l_Force_hanging : K.lookup f_Force_hanging = some ⟨oc_Force_hanging, od_Force_hanging, .func (PySem.W.fnOf "hanging" "Force.hanging" (defArgs s_Force_hanging) (defBody s_Force_hanging) (defScope s_Force_hanging) .none kV_Force_hanging dc_Force_hanging pm_Force_hanging an_Force_hanging cd_Force_hanging ct_Force_hanging), sl_Force_hanging⟩)
    (c_Force_hanging : PySem.W.codeIn K cd_Force_hanging "Force.hanging" = true)
    (k_Force_hanging : PySem.W.keepIn K (.ref f_Force_hanging) = true)
    (a__law_about : PySem.W.nsIn K mainGlobals "_law_about" = some (some (.ref f__law_about)))
    (l__law_about : K.lookup f__law_about = some ⟨oc__law_about, od__law_about, .func (PySem.W.fnOf "_law_about" "_law_about" (defArgs s__law_about) (defBody s__law_about) (defScope s__law_about) .none kV__law_about dc__law_about pm__law_about an__law_about cd__law_about ct__law_about), sl__law_about⟩)
    (c__law_about : PySem.W.codeIn K cd__law_about "_law_about" = true)
    (k__law_about : PySem.W.keepIn K (.ref f__law_about) = true)
    (a__law_pen : PySem.W.nsIn K mainGlobals "_law_pen" = some (some (.ref f__law_pen)))
    (l__law_pen : K.lookup f__law_pen = some ⟨oc__law_pen, od__law_pen, .func (PySem.W.fnOf "_law_pen" "_law_pen" (defArgs s__law_pen) (defBody s__law_pen) (defScope s__law_pen) .none kV__law_pen dc__law_pen pm__law_pen an__law_pen cd__law_pen ct__law_pen), sl__law_pen⟩)
    (c__law_pen : PySem.W.codeIn K cd__law_pen "_law_pen" = true)
    (k__law_pen : PySem.W.keepIn K (.ref f__law_pen) = true)
    (a_law : PySem.W.nsIn K mainGlobals "law" = some (some (.ref f_law)))
    (l_law : K.lookup f_law = some ⟨oc_law, od_law, .func (PySem.W.fnOf "law" "law" (defArgs s_law) (defBody s_law) (defScope s_law) .none kV_law dc_law pm_law an_law cd_law ct_law), sl_law⟩)
    (c_law : PySem.W.codeIn K cd_law "law" = true)
    (k_law : PySem.W.keepIn K (.ref f_law) = true)
    (ac_BridgeError : PySem.W.nsIn K mainGlobals "BridgeError" = some (some (.ref C_BridgeError)))
    (ac_BadRatio : PySem.W.nsIn K mainGlobals "BadRatio" = some (some (.ref C_BadRatio)))
    (ac_BadForce : PySem.W.nsIn K mainGlobals "BadForce" = some (some (.ref C_BadForce)))
    (ac_BadLoad : PySem.W.nsIn K mainGlobals "BadLoad" = some (some (.ref C_BadLoad)))
    (ac_OtherSize : PySem.W.nsIn K mainGlobals "OtherSize" = some (some (.ref C_OtherSize)))
    (ac_NoStone : PySem.W.nsIn K mainGlobals "NoStone" = some (some (.ref C_NoStone)))
    (ac_BadThrust : PySem.W.nsIn K mainGlobals "BadThrust" = some (some (.ref C_BadThrust)))
    (ac_Force : PySem.W.nsIn K mainGlobals "Force" = some (some (.ref C_Force)))
    (ac_Load : PySem.W.nsIn K mainGlobals "Load" = some (some (.ref C_Load)))
    (ac_Thrust : PySem.W.nsIn K mainGlobals "Thrust" = some (some (.ref C_Thrust)))
    (pg_Force : PySem.W.plainGet K C_Force Str.empty = true)
    (hd_Force : PySem.W.hasDictIn K C_Force = true)
    (po_Force : PySem.W.plainOver K C_Force = true)
    (sa_Force : PySem.W.findIn K (.ref C_Force) "__setattr__" = some (some (.builtin "object.__setattr__")))
    (na_Force_moment : PySem.W.findIn K (.ref C_Force) "moment" = some none)
    (na_Force_up : PySem.W.findIn K (.ref C_Force) "up" = some none)
    (na_Force_across : PySem.W.findIn K (.ref C_Force) "across" = some none)
    (pg_Load : PySem.W.plainGet K C_Load Str.empty = true)
    (hd_Load : PySem.W.hasDictIn K C_Load = true)
    (po_Load : PySem.W.plainOver K C_Load = true)
    (sa_Load : PySem.W.findIn K (.ref C_Load) "__setattr__" = some (some (.builtin "object.__setattr__")))
    (na_Load_forces : PySem.W.findIn K (.ref C_Load) "forces" = some none)
    (pg_Thrust : PySem.W.plainGet K C_Thrust Str.empty = true)
    (hd_Thrust : PySem.W.hasDictIn K C_Thrust = true)
    (po_Thrust : PySem.W.plainOver K C_Thrust = true)
    (sa_Thrust : PySem.W.findIn K (.ref C_Thrust) "__setattr__" = some (some (.builtin "object.__setattr__")))
    (na_Thrust_force : PySem.W.findIn K (.ref C_Thrust) "force" = some none)
    (na_Thrust_parts : PySem.W.findIn K (.ref C_Thrust) "parts" = some none)
    (mk_Force : PySem.W.makesIn K C_Force = true)
    (fi_Force : PySem.W.findIn K (.ref C_Force) "__init__" = some (some (.ref f_Force___init__)))
    (fn_Force___init__ : PySem.W.isFn K (.ref f_Force___init__) = true)
    (kc_Force : PySem.W.keepIn K (.ref C_Force) = true)
    (mk_Load : PySem.W.makesIn K C_Load = true)
    (fi_Load : PySem.W.findIn K (.ref C_Load) "__init__" = some (some (.ref f_Load___init__)))
    (fn_Load___init__ : PySem.W.isFn K (.ref f_Load___init__) = true)
    (kc_Load : PySem.W.keepIn K (.ref C_Load) = true)
    (mk_Thrust : PySem.W.makesIn K C_Thrust = true)
    (fi_Thrust : PySem.W.findIn K (.ref C_Thrust) "__init__" = some (some (.ref f_Thrust___init__)))
    (fn_Thrust___init__ : PySem.W.isFn K (.ref f_Thrust___init__) = true)
    (kc_Thrust : PySem.W.keepIn K (.ref C_Thrust) = true)
    (sf_Force : PySem.W.selfFirst K C_Force = true)
    (of_Force___sub__ : PySem.W.findIn K (.ref C_Force) (PySem.dunder (Operator.info .Sub).2) = some (some (.ref f_Force___sub__)))
    (fn_Force___sub__ : PySem.W.isFn K (.ref f_Force___sub__) = true)
    (of_Force___add__ : PySem.W.findIn K (.ref C_Force) (PySem.dunder (Operator.info .Add).2) = some (some (.ref f_Force___add__)))
    (fn_Force___add__ : PySem.W.isFn K (.ref f_Force___add__) = true)
    (of_Force___mul__ : PySem.W.findIn K (.ref C_Force) (PySem.dunder (Operator.info .Mult).2) = some (some (.ref f_Force___mul__)))
    (fn_Force___mul__ : PySem.W.isFn K (.ref f_Force___mul__) = true)
    (or_Force___mul__ : PySem.W.findIn K (.ref C_Force) (dunderR (Operator.info .Mult).2) = some none)
    (o1_Force___mul__ : PySem.W.findIn K (.type "int") (PySem.dunder (Operator.info .Mult).2) = some fo_Force___mul__)
    (o2_Force___mul__ : PySem.W.findIn K (.type "int") (dunderR (Operator.info .Mult).2) = some ro_Force___mul__)
    (o3_Force___mul__ : PySem.W.subIn K (.type "int") (.ref C_Force) = some false)
    (of_Force___neg__ : PySem.W.findIn K (.ref C_Force) "__neg__" = some (some (.ref f_Force___neg__)))
    (fn_Force___neg__ : PySem.W.isFn K (.ref f_Force___neg__) = true)
    (of_Force___eq__ : PySem.W.findIn K (.ref C_Force) "__eq__" = some (some (.ref f_Force___eq__)))
    (fn_Force___eq__ : PySem.W.isFn K (.ref f_Force___eq__) = true)
    (nq_Force_NoneType : PySem.W.notFirst K C_Force (.type "NoneType") = true)
    (nq_Force_bool : PySem.W.notFirst K C_Force (.type "bool") = true)
    (nq_Force_int : PySem.W.notFirst K C_Force (.type "int") = true)
    (nq_Force_str : PySem.W.notFirst K C_Force (.type "str") = true)
    (nq_Force_list : PySem.W.notFirst K C_Force (.type "list") = true)
    (nq_Force_tuple : PySem.W.notFirst K C_Force (.type "tuple") = true)
    (nq_Force_Force : PySem.W.notFirst K C_Force (.ref C_Force) = true)
    (nq_Force_Load : PySem.W.notFirst K C_Force (.ref C_Load) = true)
    (nq_Force_Thrust : PySem.W.notFirst K C_Force (.ref C_Thrust) = true)
    (ne_Force : PySem.W.findIn K (.ref C_Force) "__ne__" = some (some (.builtin "object.__ne__")))
    (so_Force : PySem.W.subIn K (.ref C_Force) (.type "object") = some true)
    (pf_Force_is_none : PySem.W.findIn K (.ref C_Force) "is_none" = some (some (.ref P_Force_is_none)))
    (pp_Force_is_none : PySem.W.specialIn K (.ref P_Force_is_none) "__get__" = some (some (.builtin "property.__get__")))
    (pt_Force_is_none : PySem.W.takesIn K (.ref P_Force_is_none) = some true)
    (pr_Force_is_none : PySem.W.recIn K P_Force_is_none "property" = some (.ref f_Force_is_none :: re_Force_is_none))
    (cr_Force_none : PySem.W.readsIn K C_Force (.type "type") = true)
    (cg_Force_none : PySem.W.specialIn K (.ref C_Force) "__getattribute__" = some (some (.builtin "type.__getattribute__")))
    (cf_Force_none : PySem.W.findCls K (.ref C_Force) (.type "type") "none" = some (.get (.builtin "classmethod.__get__") (.ref P_Force_none) .none (.ref C_Force)))
    (cc_Force_none : PySem.W.recIn K P_Force_none "classmethod" = some (.ref f_Force_none :: re_Force_none))
    (ci_Force_none : PySem.W.fnIn K f_Force_none = true)
    (cr_Force_acting : PySem.W.readsIn K C_Force (.type "type") = true)
    (cg_Force_acting : PySem.W.specialIn K (.ref C_Force) "__getattribute__" = some (some (.builtin "type.__getattribute__")))
    (cf_Force_acting : PySem.W.findCls K (.ref C_Force) (.type "type") "acting" = some (.get (.builtin "classmethod.__get__") (.ref P_Force_acting) .none (.ref C_Force)))
    (cc_Force_acting : PySem.W.recIn K P_Force_acting "classmethod" = some (.ref f_Force_acting :: re_Force_acting))
    (ci_Force_acting : PySem.W.fnIn K f_Force_acting = true)
    (cr_Force_hanging : PySem.W.readsIn K C_Force (.type "type") = true)
    (cg_Force_hanging : PySem.W.specialIn K (.ref C_Force) "__getattribute__" = some (some (.builtin "type.__getattribute__")))
    (cf_Force_hanging : PySem.W.findCls K (.ref C_Force) (.type "type") "hanging" = some (.get (.builtin "classmethod.__get__") (.ref P_Force_hanging) .none (.ref C_Force)))
    (cc_Force_hanging : PySem.W.recIn K P_Force_hanging "classmethod" = some (.ref f_Force_hanging :: re_Force_hanging))
    (ci_Force_hanging : PySem.W.fnIn K f_Force_hanging = true)
    (mf_Force_about : PySem.W.findIn K (.ref C_Force) "about" = some (some (.ref f_Force_about)))
    (fn_Force_about : PySem.W.isFn K (.ref f_Force_about) = true)
    (x1_BadForce : K.lookup C_BadForce = some (excClassObj nm_BadForce qn_BadForce C_BadForce N_BadForce bs_BadForce bm_BadForce true sn_BadForce sub_BadForce ab_BadForce col_BadForce dd_BadForce k0_BadForce k1_BadForce k2_BadForce k3_BadForce k5_BadForce "ValueError.__new__"))
    (x2_BadForce : PySem.HandSPX.refsVE bm_BadForce = true)
    (x3_BadForce : PySem.W.findIn K (.ref C_BadForce) "__setattr__" = some (some (.builtin "object.__setattr__")))
    (x4_BadForce : PySem.W.subIn K (.ref C_BadForce) (.type "BaseException") = some true)
    (x5_BadForce : PySem.W.typeIn K (.ref C_BadForce) = some (.type "type"))
    (x6_BadForce : PySem.W.keepIn K (.ref C_BadForce) = true)
    (x7_BadForce : PySem.W.findIn K (.ref C_BadForce) "__init__" = some (some (.ref I_BadForce)))
    (x8_BadForce : PySem.W.typeIn K (.ref I_BadForce) = some (.type "function"))
    (li_BadForce : K.lookup I_BadForce = some ⟨oci_BadForce, odi_BadForce, .func (PySem.W.fnOf "__init__" "BadForce.__init__" (defArgs si_BadForce) (defBody si_BadForce) (defScope si_BadForce) .none kVi_BadForce dci_BadForce pmi_BadForce ani_BadForce cdi_BadForce cti_BadForce), sli_BadForce⟩)
    (cdi_BadForce_ : PySem.W.codeIn K cdi_BadForce "BadForce.__init__" = true)
    (ki_BadForce : PySem.W.keepIn K (.ref I_BadForce) = true)
    (xn_BadForce_what : PySem.W.findIn K (.ref C_BadForce) "what" = some none)
    (x1_BadLoad : K.lookup C_BadLoad = some (excClassObj nm_BadLoad qn_BadLoad C_BadLoad N_BadLoad bs_BadLoad bm_BadLoad true sn_BadLoad sub_BadLoad ab_BadLoad col_BadLoad dd_BadLoad k0_BadLoad k1_BadLoad k2_BadLoad k3_BadLoad k5_BadLoad "ValueError.__new__"))
    (x2_BadLoad : PySem.HandSPX.refsVE bm_BadLoad = true)
    (x3_BadLoad : PySem.W.findIn K (.ref C_BadLoad) "__setattr__" = some (some (.builtin "object.__setattr__")))
    (x4_BadLoad : PySem.W.subIn K (.ref C_BadLoad) (.type "BaseException") = some true)
    (x5_BadLoad : PySem.W.typeIn K (.ref C_BadLoad) = some (.type "type"))
    (x6_BadLoad : PySem.W.keepIn K (.ref C_BadLoad) = true)
    (x7_BadLoad : PySem.W.findIn K (.ref C_BadLoad) "__init__" = some (some (.ref I_BadLoad)))
    (x8_BadLoad : PySem.W.typeIn K (.ref I_BadLoad) = some (.type "function"))
    (li_BadLoad : K.lookup I_BadLoad = some ⟨oci_BadLoad, odi_BadLoad, .func (PySem.W.fnOf "__init__" "BadLoad.__init__" (defArgs si_BadLoad) (defBody si_BadLoad) (defScope si_BadLoad) .none kVi_BadLoad dci_BadLoad pmi_BadLoad ani_BadLoad cdi_BadLoad cti_BadLoad), sli_BadLoad⟩)
    (cdi_BadLoad_ : PySem.W.codeIn K cdi_BadLoad "BadLoad.__init__" = true)
    (ki_BadLoad : PySem.W.keepIn K (.ref I_BadLoad) = true)
    (xn_BadLoad_what : PySem.W.findIn K (.ref C_BadLoad) "what" = some none)
    (x1_BadThrust : K.lookup C_BadThrust = some (excClassObj nm_BadThrust qn_BadThrust C_BadThrust N_BadThrust bs_BadThrust bm_BadThrust true sn_BadThrust sub_BadThrust ab_BadThrust col_BadThrust dd_BadThrust k0_BadThrust k1_BadThrust k2_BadThrust k3_BadThrust k5_BadThrust "ValueError.__new__"))
    (x2_BadThrust : PySem.HandSPX.refsVE bm_BadThrust = true)
    (x3_BadThrust : PySem.W.findIn K (.ref C_BadThrust) "__setattr__" = some (some (.builtin "object.__setattr__")))
    (x4_BadThrust : PySem.W.subIn K (.ref C_BadThrust) (.type "BaseException") = some true)
    (x5_BadThrust : PySem.W.typeIn K (.ref C_BadThrust) = some (.type "type"))
    (x6_BadThrust : PySem.W.keepIn K (.ref C_BadThrust) = true)
    (x7_BadThrust : PySem.W.findIn K (.ref C_BadThrust) "__init__" = some (some (.ref I_BadThrust)))
    (x8_BadThrust : PySem.W.typeIn K (.ref I_BadThrust) = some (.type "function"))
    (li_BadThrust : K.lookup I_BadThrust = some ⟨oci_BadThrust, odi_BadThrust, .func (PySem.W.fnOf "__init__" "BadThrust.__init__" (defArgs si_BadThrust) (defBody si_BadThrust) (defScope si_BadThrust) .none kVi_BadThrust dci_BadThrust pmi_BadThrust ani_BadThrust cdi_BadThrust cti_BadThrust), sli_BadThrust⟩)
    (cdi_BadThrust_ : PySem.W.codeIn K cdi_BadThrust "BadThrust.__init__" = true)
    (ki_BadThrust : PySem.W.keepIn K (.ref I_BadThrust) = true)
    (e1_BadForce : PySem.W.subIn K (.ref C_BadForce) (.type "BaseException") = some true)
    (e2_BadForce : PySem.W.hasDictIn K C_BadForce = true)
    (e3_BadForce : PySem.W.typeIn K (.ref C_BadForce) = some (.type "type"))
    (es_BadForce_BadForce : PySem.W.subIn K (.ref C_BadForce) (.ref C_BadForce) = some true)
    (es_BadLoad_BadForce : PySem.W.subIn K (.ref C_BadLoad) (.ref C_BadForce) = some false)
    (es_BadThrust_BadForce : PySem.W.subIn K (.ref C_BadThrust) (.ref C_BadForce) = some false)
    (y1_BadForce : PySem.W.findIn K (.ref C_BadForce) "__getattribute__" = some (some (.builtin "BaseException.__getattribute__")))
    (y2_BadForce : PySem.W.findIn K (.ref C_BadForce) "__getattr__" = some none)
    (y3_BadForce : PySem.W.subIn K (.ref C_BadForce) (.type "BaseException") = some true)
    (y4_BadForce : PySem.W.hasDictIn K C_BadForce = true)
    (y5_BadForce : PySem.W.findIn K (.ref C_BadForce) "__class__" = some (some (.builtin "object.__class__")))
    (y6_BadForce : PySem.W.specialIn K (.builtin "object.__class__") "__get__" = some (some (.builtin "getset_descriptor.__get__")))
    (y7_BadForce : PySem.W.takesIn K (.builtin "object.__class__") = some true)
    (y8_BadForce : PySem.W.mroIn K C_BadForce (.type "object") = some true)
    (sb_Force_bool : PySem.W.subIn K (.ref C_Force) (.type "bool") = some false)
    (sb_Force_int : PySem.W.subIn K (.ref C_Force) (.type "int") = some false)
    (sb_Force_list : PySem.W.subIn K (.ref C_Force) (.type "list") = some false)
    (sb_Force_tuple : PySem.W.subIn K (.ref C_Force) (.type "tuple") = some false)
    (hq_Force : PySem.W.hasDictIn K C_Force = true)
    (hty_Force : PySem.W.typeIn K (.ref C_Force) = some (.type "type"))
    (sb_Load_Force : PySem.W.subIn K (.ref C_Load) (.ref C_Force) = some false)
    (ne_Load_Force : C_Load ≠ C_Force)
    (sb_Load_bool : PySem.W.subIn K (.ref C_Load) (.type "bool") = some false)
    (sb_Load_int : PySem.W.subIn K (.ref C_Load) (.type "int") = some false)
    (sb_Load_list : PySem.W.subIn K (.ref C_Load) (.type "list") = some false)
    (sb_Load_tuple : PySem.W.subIn K (.ref C_Load) (.type "tuple") = some false)
    (sb_NoneType_Force : PySem.W.subIn K (.type "NoneType") (.ref C_Force) = some false)
    (sb_Thrust_Force : PySem.W.subIn K (.ref C_Thrust) (.ref C_Force) = some false)
    (ne_Thrust_Force : C_Thrust ≠ C_Force)
    (sb_Thrust_bool : PySem.W.subIn K (.ref C_Thrust) (.type "bool") = some false)
    (sb_Thrust_int : PySem.W.subIn K (.ref C_Thrust) (.type "int") = some false)
    (sb_Thrust_list : PySem.W.subIn K (.ref C_Thrust) (.type "list") = some false)
    (sb_Thrust_tuple : PySem.W.subIn K (.ref C_Thrust) (.type "tuple") = some false)
    (sb_bool_Force : PySem.W.subIn K (.type "bool") (.ref C_Force) = some false)
    (sb_int_Force : PySem.W.subIn K (.type "int") (.ref C_Force) = some false)
    (sb_list_Force : PySem.W.subIn K (.type "list") (.ref C_Force) = some false)
    (sb_str_Force : PySem.W.subIn K (.type "str") (.ref C_Force) = some false)
    (sb_tuple_Force : PySem.W.subIn K (.type "tuple") (.ref C_Force) = some false)
    (y5_Force : PySem.W.findIn K (.ref C_Force) "__class__" = some (some (.builtin "object.__class__")))
    (y6_Force : PySem.W.specialIn K (.builtin "object.__class__") "__get__" = some (some (.builtin "getset_descriptor.__get__")))
    (y7_Force : PySem.W.takesIn K (.builtin "object.__class__") = some true)
    (y8_Force : PySem.W.mroIn K C_Force (.type "object") = some true)
    (y5_Load : PySem.W.findIn K (.ref C_Load) "__class__" = some (some (.builtin "object.__class__")))
    (y6_Load : PySem.W.specialIn K (.builtin "object.__class__") "__get__" = some (some (.builtin "getset_descriptor.__get__")))
    (y7_Load : PySem.W.takesIn K (.builtin "object.__class__") = some true)
    (y8_Load : PySem.W.mroIn K C_Load (.type "object") = some true)
    (y5_Thrust : PySem.W.findIn K (.ref C_Thrust) "__class__" = some (some (.builtin "object.__class__")))
    (y6_Thrust : PySem.W.specialIn K (.builtin "object.__class__") "__get__" = some (some (.builtin "getset_descriptor.__get__")))
    (y7_Thrust : PySem.W.takesIn K (.builtin "object.__class__") = some true)
    (y8_Thrust : PySem.W.mroIn K C_Thrust (.type "object") = some true)
    (zg_MOST_STONES : PySem.W.nsIn K mainGlobals "MOST_STONES" = some (some (.int 8 tk_MOST_STONES)))
    (z_all : PySem.W.nsIn K mainGlobals "all" = some none)
    (z_bool : PySem.W.nsIn K mainGlobals "bool" = some none)
    (z_int : PySem.W.nsIn K mainGlobals "int" = some none)
    (z_isinstance : PySem.W.nsIn K mainGlobals "isinstance" = some none)
    (z_len : PySem.W.nsIn K mainGlobals "len" = some none)
    (z_list : PySem.W.nsIn K mainGlobals "list" = some none)
    (z_range : PySem.W.nsIn K mainGlobals "range" = some none)
    (z_str : PySem.W.nsIn K mainGlobals "str" = some none)
    (z_tuple : PySem.W.nsIn K mainGlobals "tuple" = some none)
    (zi_gcd : PySem.W.nsIn K mainGlobals "gcd" = some (some (.builtin "math.gcd"))) :
    ∃ fd : FuncData, (∀ (s : Shared) (v : Value), BindsTo s fd ⟨[v], []⟩ [("_law_script", v)]) ∧ ∀ base : Heap, K.In base → base.Ns mainGlobals mg → FnOk l.prog w K mg base (L2.CX l.prog w) 8 fa fd ["_law_script"] (spLaw K) := by
  have e : fa = f_law := by
    have z := hfa.symm.trans (PySem.W.mg_of X G a_law)
    cases z
    rfl
  rw [e]
  have T : Txt K mg ⟨f__law_take, (PySem.W.fnOf "_law_take" "_law_take" (defArgs s__law_take) (defBody s__law_take) (defScope s__law_take) .none kV__law_take dc__law_take pm__law_take an__law_take cd__law_take ct__law_take), f__law_of, (PySem.W.fnOf "_law_of" "_law_of" (defArgs s__law_of) (defBody s__law_of) (defScope s__law_of) .none kV__law_of dc__law_of pm__law_of an__law_of cd__law_of ct__law_of), f__law_number, (PySem.W.fnOf "_law_number" "_law_number" (defArgs s__law_number) (defBody s__law_number) (defScope s__law_number) .none kV__law_number dc__law_number pm__law_number an__law_number cd__law_number ct__law_number), f__law_is_number, (PySem.W.fnOf "_law_is_number" "_law_is_number" (defArgs s__law_is_number) (defBody s__law_is_number) (defScope s__law_is_number) .none kV__law_is_number dc__law_is_number pm__law_is_number an__law_is_number cd__law_is_number ct__law_is_number), f__law_numbers, (PySem.W.fnOf "_law_numbers" "_law_numbers" (defArgs s__law_numbers) (defBody s__law_numbers) (defScope s__law_numbers) .none kV__law_numbers dc__law_numbers pm__law_numbers an__law_numbers cd__law_numbers ct__law_numbers), f__law_right, (PySem.W.fnOf "_law_right" "_law_right" (defArgs s__law_right) (defBody s__law_right) (defScope s__law_right) .none kV__law_right dc__law_right pm__law_right an__law_right cd__law_right ct__law_right), f__law_moment, (PySem.W.fnOf "_law_moment" "_law_moment" (defArgs s__law_moment) (defBody s__law_moment) (defScope s__law_moment) .none kV__law_moment dc__law_moment pm__law_moment an__law_moment cd__law_moment ct__law_moment), f_is_number, (PySem.W.fnOf "is_number" "is_number" (defArgs s_is_number) (defBody s_is_number) (defScope s_is_number) .none kV_is_number dc_is_number pm_is_number an_is_number cd_is_number ct_is_number), f_Force___init__, (PySem.W.fnOf "__init__" "Force.__init__" (defArgs s_Force___init__) (defBody s_Force___init__) (defScope s_Force___init__) .none kV_Force___init__ dc_Force___init__ pm_Force___init__ an_Force___init__ cd_Force___init__ ct_Force___init__), f__law_refusals, (PySem.W.fnOf "_law_refusals" "_law_refusals" (defArgs s__law_refusals) (defBody s__law_refusals) (defScope s__law_refusals) .none kV__law_refusals dc__law_refusals pm__law_refusals an__law_refusals cd__law_refusals ct__law_refusals), f_Force___sub__, (PySem.W.fnOf "__sub__" "Force.__sub__" (defArgs s_Force___sub__) (defBody s_Force___sub__) (defScope s_Force___sub__) .none kV_Force___sub__ dc_Force___sub__ pm_Force___sub__ an_Force___sub__ cd_Force___sub__ ct_Force___sub__), f_Force___add__, (PySem.W.fnOf "__add__" "Force.__add__" (defArgs s_Force___add__) (defBody s_Force___add__) (defScope s_Force___add__) .none kV_Force___add__ dc_Force___add__ pm_Force___add__ an_Force___add__ cd_Force___add__ ct_Force___add__), f_Force___mul__, (PySem.W.fnOf "__mul__" "Force.__mul__" (defArgs s_Force___mul__) (defBody s_Force___mul__) (defScope s_Force___mul__) .none kV_Force___mul__ dc_Force___mul__ pm_Force___mul__ an_Force___mul__ cd_Force___mul__ ct_Force___mul__), f_Force___neg__, (PySem.W.fnOf "__neg__" "Force.__neg__" (defArgs s_Force___neg__) (defBody s_Force___neg__) (defScope s_Force___neg__) .none kV_Force___neg__ dc_Force___neg__ pm_Force___neg__ an_Force___neg__ cd_Force___neg__ ct_Force___neg__), f_Force_none, (PySem.W.fnOf "none" "Force.none" (defArgs s_Force_none) (defBody s_Force_none) (defScope s_Force_none) .none kV_Force_none dc_Force_none pm_Force_none an_Force_none cd_Force_none ct_Force_none), P_Force_none, (.type "type"), f_Force_is_none, (PySem.W.fnOf "is_none" "Force.is_none" (defArgs s_Force_is_none) (defBody s_Force_is_none) (defScope s_Force_is_none) .none kV_Force_is_none dc_Force_is_none pm_Force_is_none an_Force_is_none cd_Force_is_none ct_Force_is_none), P_Force_is_none, f__law_signs, (PySem.W.fnOf "_law_signs" "_law_signs" (defArgs s__law_signs) (defBody s__law_signs) (defScope s__law_signs) .none kV__law_signs dc__law_signs pm__law_signs an__law_signs cd__law_signs ct__law_signs), f_Force___eq__, (PySem.W.fnOf "__eq__" "Force.__eq__" (defArgs s_Force___eq__) (defBody s_Force___eq__) (defScope s_Force___eq__) .none kV_Force___eq__ dc_Force___eq__ pm_Force___eq__ an_Force___eq__ cd_Force___eq__ ct_Force___eq__), f_is_row, (PySem.W.fnOf "is_row" "is_row" (defArgs s_is_row) (defBody s_is_row) (defScope s_is_row) .none kV_is_row dc_is_row pm_is_row an_is_row cd_is_row ct_is_row), f_Load___init__, (PySem.W.fnOf "__init__" "Load.__init__" (defArgs s_Load___init__) (defBody s_Load___init__) (defScope s_Load___init__) .none kV_Load___init__ dc_Load___init__ pm_Load___init__ an_Load___init__ cd_Load___init__ ct_Load___init__), f_Thrust___init__, (PySem.W.fnOf "__init__" "Thrust.__init__" (defArgs s_Thrust___init__) (defBody s_Thrust___init__) (defScope s_Thrust___init__) (.ref T_Thrust___init__) kV_Thrust___init__ dc_Thrust___init__ pm_Thrust___init__ an_Thrust___init__ cd_Thrust___init__ ct_Thrust___init__), f__law_equal, (PySem.W.fnOf "_law_equal" "_law_equal" (defArgs s__law_equal) (defBody s__law_equal) (defScope s__law_equal) .none kV__law_equal dc__law_equal pm__law_equal an__law_equal cd__law_equal ct__law_equal), f_Force_about, (PySem.W.fnOf "about" "Force.about" (defArgs s_Force_about) (defBody s_Force_about) (defScope s_Force_about) .none kV_Force_about dc_Force_about pm_Force_about an_Force_about cd_Force_about ct_Force_about), f_Force_acting, (PySem.W.fnOf "acting" "Force.acting" (defArgs s_Force_acting) (defBody s_Force_acting) (defScope s_Force_acting) .none kV_Force_acting dc_Force_acting pm_Force_acting an_Force_acting cd_Force_acting ct_Force_acting), P_Force_acting, (.type "type"), f_Force_hanging, (PySem.W.fnOf "hanging" "Force.hanging" (defArgs s_Force_hanging) (defBody s_Force_hanging) (defScope s_Force_hanging) .none kV_Force_hanging dc_Force_hanging pm_Force_hanging an_Force_hanging cd_Force_hanging ct_Force_hanging), P_Force_hanging, (.type "type"), f__law_about, (PySem.W.fnOf "_law_about" "_law_about" (defArgs s__law_about) (defBody s__law_about) (defScope s__law_about) .none kV__law_about dc__law_about pm__law_about an__law_about cd__law_about ct__law_about), f__law_pen, (PySem.W.fnOf "_law_pen" "_law_pen" (defArgs s__law_pen) (defBody s__law_pen) (defScope s__law_pen) .none kV__law_pen dc__law_pen pm__law_pen an__law_pen cd__law_pen ct__law_pen), f_law, (PySem.W.fnOf "law" "law" (defArgs s_law) (defBody s_law) (defScope s_law) .none kV_law dc_law pm_law an_law cd_law ct_law), C_BridgeError, C_BadRatio, C_BadForce, I_BadForce, (PySem.W.fnOf "__init__" "BadForce.__init__" (defArgs si_BadForce) (defBody si_BadForce) (defScope si_BadForce) .none kVi_BadForce dci_BadForce pmi_BadForce ani_BadForce cdi_BadForce cti_BadForce), C_BadLoad, I_BadLoad, (PySem.W.fnOf "__init__" "BadLoad.__init__" (defArgs si_BadLoad) (defBody si_BadLoad) (defScope si_BadLoad) .none kVi_BadLoad dci_BadLoad pmi_BadLoad ani_BadLoad cdi_BadLoad cti_BadLoad), C_OtherSize, C_NoStone, C_BadThrust, I_BadThrust, (PySem.W.fnOf "__init__" "BadThrust.__init__" (defArgs si_BadThrust) (defBody si_BadThrust) (defScope si_BadThrust) .none kVi_BadThrust dci_BadThrust pmi_BadThrust ani_BadThrust cdi_BadThrust cti_BadThrust), C_Force, C_Load, C_Thrust, tk_MOST_STONES⟩ := {
    t__law_take := fund_mk l__law_take c__law_take k__law_take
    m__law_take := PySem.W.mg_of X G a__law_take
    b__law_take := (fund_mk l__law_take c__law_take k__law_take).bindsN (ps := ["_law_pen_here", "_law_many"]) fun _ _ _ _ _ _ us hl => match us, hl with | [_, _], _ => rfl
    t__law_of := fund_mk l__law_of c__law_of k__law_of
    m__law_of := PySem.W.mg_of X G a__law_of
    b__law_of := (fund_mk l__law_of c__law_of k__law_of).bindsN (ps := ["_law_pen_here", "_law_some"]) fun _ _ _ _ _ _ us hl => match us, hl with | [_, _], _ => rfl
    t__law_number := fund_mk l__law_number c__law_number k__law_number
    m__law_number := PySem.W.mg_of X G a__law_number
    b__law_number := (fund_mk l__law_number c__law_number k__law_number).bindsN (ps := ["_law_pen_here"]) fun _ _ _ _ _ _ us hl => match us, hl with | [_], _ => rfl
    t__law_is_number := fund_mk l__law_is_number c__law_is_number k__law_is_number
    m__law_is_number := PySem.W.mg_of X G a__law_is_number
    b__law_is_number := (fund_mk l__law_is_number c__law_is_number k__law_is_number).bindsN (ps := ["_law_thing"]) fun _ _ _ _ _ _ us hl => match us, hl with | [_], _ => rfl
    t__law_numbers := fund_mk l__law_numbers c__law_numbers k__law_numbers
    m__law_numbers := PySem.W.mg_of X G a__law_numbers
    b__law_numbers := (fund_mk l__law_numbers c__law_numbers k__law_numbers).bindsN (ps := ["_law_pen_here"]) fun _ _ _ _ _ _ us hl => match us, hl with | [_], _ => rfl
    t__law_right := fund_mk l__law_right c__law_right k__law_right
    m__law_right := PySem.W.mg_of X G a__law_right
    b__law_right := (fund_mk l__law_right c__law_right k__law_right).bindsN (ps := ["_law_force", "_law_due"]) fun _ _ _ _ _ _ us hl => match us, hl with | [_, _], _ => rfl
    t__law_moment := fund_mk l__law_moment c__law_moment k__law_moment
    m__law_moment := PySem.W.mg_of X G a__law_moment
    b__law_moment := (fund_mk l__law_moment c__law_moment k__law_moment).bindsN (ps := ["_law_due", "_law_point"]) fun _ _ _ _ _ _ us hl => match us, hl with | [_, _], _ => rfl
    t_is_number := fund_mk l_is_number c_is_number k_is_number
    m_is_number := PySem.W.mg_of X G a_is_number
    b_is_number := (fund_mk l_is_number c_is_number k_is_number).bindsN (ps := ["thing"]) fun _ _ _ _ _ _ us hl => match us, hl with | [_], _ => rfl
    t_Force___init__ := fund_mk l_Force___init__ c_Force___init__ k_Force___init__
    b_Force___init__ := (fund_mk l_Force___init__ c_Force___init__ k_Force___init__).bindsN (ps := ["self", "across", "up", "moment"]) fun _ _ _ _ _ _ us hl => match us, hl with | [_, _, _, _], _ => rfl
    t__law_refusals := fund_mk l__law_refusals c__law_refusals k__law_refusals
    m__law_refusals := PySem.W.mg_of X G a__law_refusals
    b__law_refusals := (fund_mk l__law_refusals c__law_refusals k__law_refusals).bindsN (ps := ["_law_pen_here"]) fun _ _ _ _ _ _ us hl => match us, hl with | [_], _ => rfl
    t_Force___sub__ := fund_mk l_Force___sub__ c_Force___sub__ k_Force___sub__
    b_Force___sub__ := (fund_mk l_Force___sub__ c_Force___sub__ k_Force___sub__).bindsN (ps := ["self", "other"]) fun _ _ _ _ _ _ us hl => match us, hl with | [_, _], _ => rfl
    t_Force___add__ := fund_mk l_Force___add__ c_Force___add__ k_Force___add__
    b_Force___add__ := (fund_mk l_Force___add__ c_Force___add__ k_Force___add__).bindsN (ps := ["self", "other"]) fun _ _ _ _ _ _ us hl => match us, hl with | [_, _], _ => rfl
    t_Force___mul__ := fund_mk l_Force___mul__ c_Force___mul__ k_Force___mul__
    b_Force___mul__ := (fund_mk l_Force___mul__ c_Force___mul__ k_Force___mul__).bindsN (ps := ["self", "other"]) fun _ _ _ _ _ _ us hl => match us, hl with | [_, _], _ => rfl
    t_Force___neg__ := fund_mk l_Force___neg__ c_Force___neg__ k_Force___neg__
    b_Force___neg__ := (fund_mk l_Force___neg__ c_Force___neg__ k_Force___neg__).bindsN (ps := ["self"]) fun _ _ _ _ _ _ us hl => match us, hl with | [_], _ => rfl
    t_Force_none := fund_mk l_Force_none c_Force_none k_Force_none
    b_Force_none := (fund_mk l_Force_none c_Force_none k_Force_none).bindsN (ps := ["cls"]) fun _ _ _ _ _ _ us hl => match us, hl with | [_], _ => rfl
    t_Force_is_none := fund_mk l_Force_is_none c_Force_is_none k_Force_is_none
    b_Force_is_none := (fund_mk l_Force_is_none c_Force_is_none k_Force_is_none).bindsN (ps := ["self"]) fun _ _ _ _ _ _ us hl => match us, hl with | [_], _ => rfl
    t__law_signs := fund_mk l__law_signs c__law_signs k__law_signs
    m__law_signs := PySem.W.mg_of X G a__law_signs
    b__law_signs := (fund_mk l__law_signs c__law_signs k__law_signs).bindsN (ps := ["_law_one", "_law_other", "_law_times"]) fun _ _ _ _ _ _ us hl => match us, hl with | [_, _, _], _ => rfl
    t_Force___eq__ := fund_mk l_Force___eq__ c_Force___eq__ k_Force___eq__
    b_Force___eq__ := (fund_mk l_Force___eq__ c_Force___eq__ k_Force___eq__).bindsN (ps := ["self", "other"]) fun _ _ _ _ _ _ us hl => match us, hl with | [_, _], _ => rfl
    t_is_row := fund_mk l_is_row c_is_row k_is_row
    m_is_row := PySem.W.mg_of X G a_is_row
    b_is_row := (fund_mk l_is_row c_is_row k_is_row).bindsN (ps := ["thing", "least", "most"]) fun _ _ _ _ _ _ us hl => match us, hl with | [_, _, _], _ => rfl
    t_Load___init__ := fund_mk l_Load___init__ c_Load___init__ k_Load___init__
    b_Load___init__ := (fund_mk l_Load___init__ c_Load___init__ k_Load___init__).bindsN (ps := ["self", "forces"]) fun _ _ _ _ _ _ us hl => match us, hl with | [_, _], _ => rfl
    t_Thrust___init__ := fund_mk1 (its := [.int 1 ttk0_Thrust___init__]) l_Thrust___init__ c_Thrust___init__ k_Thrust___init__ lt_Thrust___init__ (show Vals [.int 1] [.int 1 ttk0_Thrust___init__] from .cons ⟨_, rfl⟩ .nil) (by simp)
    b_Thrust___init__ := binds_full (FunD.binds1 (ps := ["self", "force", "parts"]) (fund_mk1 (its := [.int 1 ttk0_Thrust___init__]) l_Thrust___init__ c_Thrust___init__ k_Thrust___init__ lt_Thrust___init__ (show Vals [.int 1] [.int 1 ttk0_Thrust___init__] from .cons ⟨_, rfl⟩ .nil) (by simp)) 3 1 (by simp) rfl fun _ _ _ _ _ _ _ us its hl h2 => match us, hl, its, h2 with | [_, _, _], _, [_], _ => ⟨_, rfl, rfl⟩) rfl
    bd1_Thrust___init__ := FunD.binds1 (ps := ["self", "force", "parts"]) (fund_mk1 (its := [.int 1 ttk0_Thrust___init__]) l_Thrust___init__ c_Thrust___init__ k_Thrust___init__ lt_Thrust___init__ (show Vals [.int 1] [.int 1 ttk0_Thrust___init__] from .cons ⟨_, rfl⟩ .nil) (by simp)) 2 0 (by simp) rfl fun _ _ _ _ _ _ _ us its hl h2 => match us, hl, its, h2 with | [_, _], _, [_], _ => ⟨_, rfl, rfl⟩
    t__law_equal := fund_mk l__law_equal c__law_equal k__law_equal
    m__law_equal := PySem.W.mg_of X G a__law_equal
    b__law_equal := (fund_mk l__law_equal c__law_equal k__law_equal).bindsN (ps := ["_law_pen_here", "_law_one"]) fun _ _ _ _ _ _ us hl => match us, hl with | [_, _], _ => rfl
    t_Force_about := fund_mk l_Force_about c_Force_about k_Force_about
    b_Force_about := (fund_mk l_Force_about c_Force_about k_Force_about).bindsN (ps := ["self", "point"]) fun _ _ _ _ _ _ us hl => match us, hl with | [_, _], _ => rfl
    t_Force_acting := fund_mk l_Force_acting c_Force_acting k_Force_acting
    b_Force_acting := (fund_mk l_Force_acting c_Force_acting k_Force_acting).bindsN (ps := ["cls", "across", "up", "point"]) fun _ _ _ _ _ _ us hl => match us, hl with | [_, _, _, _], _ => rfl
    t_Force_hanging := fund_mk l_Force_hanging c_Force_hanging k_Force_hanging
    b_Force_hanging := (fund_mk l_Force_hanging c_Force_hanging k_Force_hanging).bindsN (ps := ["cls", "weight", "x"]) fun _ _ _ _ _ _ us hl => match us, hl with | [_, _, _], _ => rfl
    t__law_about := fund_mk l__law_about c__law_about k__law_about
    m__law_about := PySem.W.mg_of X G a__law_about
    b__law_about := (fund_mk l__law_about c__law_about k__law_about).bindsN (ps := ["_law_pen_here", "_law_one", "_law_other"]) fun _ _ _ _ _ _ us hl => match us, hl with | [_, _, _], _ => rfl
    t__law_pen := fund_mk l__law_pen c__law_pen k__law_pen
    m__law_pen := PySem.W.mg_of X G a__law_pen
    b__law_pen := (fund_mk l__law_pen c__law_pen k__law_pen).bindsN (ps := ["_law_script"]) fun _ _ _ _ _ _ us hl => match us, hl with | [_], _ => rfl
    t_law := fund_mk l_law c_law k_law
    m_law := PySem.W.mg_of X G a_law
    b_law := (fund_mk l_law c_law k_law).bindsN (ps := ["_law_script"]) fun _ _ _ _ _ _ us hl => match us, hl with | [_], _ => rfl
    m_BridgeError := PySem.W.mg_of X G ac_BridgeError
    m_BadRatio := PySem.W.mg_of X G ac_BadRatio
    m_BadForce := PySem.W.mg_of X G ac_BadForce
    m_BadLoad := PySem.W.mg_of X G ac_BadLoad
    m_OtherSize := PySem.W.mg_of X G ac_OtherSize
    m_NoStone := PySem.W.mg_of X G ac_NoStone
    m_BadThrust := PySem.W.mg_of X G ac_BadThrust
    m_Force := PySem.W.mg_of X G ac_Force
    m_Load := PySem.W.mg_of X G ac_Load
    m_Thrust := PySem.W.mg_of X G ac_Thrust
    cl_Force := ⟨pg_Force, hd_Force, po_Force, sa_Force⟩
    na_Force_moment := na_Force_moment
    na_Force_up := na_Force_up
    na_Force_across := na_Force_across
    cl_Load := ⟨pg_Load, hd_Load, po_Load, sa_Load⟩
    na_Load_forces := na_Load_forces
    cl_Thrust := ⟨pg_Thrust, hd_Thrust, po_Thrust, sa_Thrust⟩
    na_Thrust_force := na_Thrust_force
    na_Thrust_parts := na_Thrust_parts
    mk_Force := ⟨⟨mk_Force, fi_Force, fn_Force___init__, kc_Force⟩, PySem.W.mg_of X G ac_Force, ((fund_mk l_Force___init__ c_Force___init__ k_Force___init__).bindsN (ps := ["self", "across", "up", "moment"]) fun _ _ _ _ _ _ us hl => match us, hl with | [_, _, _, _], _ => rfl)⟩
    mk_Load := ⟨⟨mk_Load, fi_Load, fn_Load___init__, kc_Load⟩, PySem.W.mg_of X G ac_Load, ((fund_mk l_Load___init__ c_Load___init__ k_Load___init__).bindsN (ps := ["self", "forces"]) fun _ _ _ _ _ _ us hl => match us, hl with | [_, _], _ => rfl)⟩
    mk_Thrust := ⟨⟨mk_Thrust, fi_Thrust, fn_Thrust___init__, kc_Thrust⟩, PySem.W.mg_of X G ac_Thrust, (binds_full (FunD.binds1 (ps := ["self", "force", "parts"]) (fund_mk1 (its := [.int 1 ttk0_Thrust___init__]) l_Thrust___init__ c_Thrust___init__ k_Thrust___init__ lt_Thrust___init__ (show Vals [.int 1] [.int 1 ttk0_Thrust___init__] from .cons ⟨_, rfl⟩ .nil) (by simp)) 3 1 (by simp) rfl fun _ _ _ _ _ _ _ us its hl h2 => match us, hl, its, h2 with | [_, _, _], _, [_], _ => ⟨_, rfl, rfl⟩) rfl)⟩
    mk1_Thrust := ⟨⟨mk_Thrust, fi_Thrust, fn_Thrust___init__, kc_Thrust⟩, PySem.W.mg_of X G ac_Thrust, And.right (Exists.choose_spec (p := fun dl => Vals _ dl ∧ L2.Binds _ _ _ dl) _)⟩
    op_Force___sub__ := ⟨sf_Force, of_Force___sub__, fn_Force___sub__, ((fund_mk l_Force___sub__ c_Force___sub__ k_Force___sub__).bindsN (ps := ["self", "other"]) fun _ _ _ _ _ _ us hl => match us, hl with | [_, _], _ => rfl)⟩
    op_Force___add__ := ⟨sf_Force, of_Force___add__, fn_Force___add__, ((fund_mk l_Force___add__ c_Force___add__ k_Force___add__).bindsN (ps := ["self", "other"]) fun _ _ _ _ _ _ us hl => match us, hl with | [_, _], _ => rfl)⟩
    op_Force___mul__ := ⟨sf_Force, of_Force___mul__, fn_Force___mul__, ((fund_mk l_Force___mul__ c_Force___mul__ k_Force___mul__).bindsN (ps := ["self", "other"]) fun _ _ _ _ _ _ us hl => match us, hl with | [_, _], _ => rfl)⟩
    oi_Force___mul__ := ⟨or_Force___mul__, ⟨_, o1_Force___mul__⟩, ⟨_, o2_Force___mul__⟩, o3_Force___mul__⟩
    ng_Force___neg__ := ⟨of_Force___neg__, fn_Force___neg__, ((fund_mk l_Force___neg__ c_Force___neg__ k_Force___neg__).bindsN (ps := ["self"]) fun _ _ _ _ _ _ us hl => match us, hl with | [_], _ => rfl)⟩
    eq_Force___eq__ := ⟨of_Force___eq__, fn_Force___eq__, ((fund_mk l_Force___eq__ c_Force___eq__ k_Force___eq__).bindsN (ps := ["self", "other"]) fun _ _ _ _ _ _ us hl => match us, hl with | [_, _], _ => rfl)⟩
    nq_Force_NoneType := nq_Force_NoneType
    nq_Force_bool := nq_Force_bool
    nq_Force_int := nq_Force_int
    nq_Force_str := nq_Force_str
    nq_Force_list := nq_Force_list
    nq_Force_tuple := nq_Force_tuple
    nq_Force_Force := nq_Force_Force
    nq_Force_Load := nq_Force_Load
    nq_Force_Thrust := nq_Force_Thrust
    no_Force := ⟨ne_Force, so_Force⟩
    pr_Force_is_none := ⟨⟨pg_Force, hd_Force, po_Force, sa_Force⟩, ⟨pf_Force_is_none, pp_Force_is_none, pt_Force_is_none, ⟨_, pr_Force_is_none⟩⟩, ((fund_mk l_Force_is_none c_Force_is_none k_Force_is_none).bindsN (ps := ["self"]) fun _ _ _ _ _ _ us hl => match us, hl with | [_], _ => rfl)⟩
    cm_Force_none := ⟨⟨cr_Force_none, cg_Force_none⟩, ⟨cf_Force_none, ⟨_, cc_Force_none⟩, ci_Force_none⟩, ((fund_mk l_Force_none c_Force_none k_Force_none).bindsN (ps := ["cls"]) fun _ _ _ _ _ _ us hl => match us, hl with | [_], _ => rfl)⟩
    cm_Force_acting := ⟨⟨cr_Force_acting, cg_Force_acting⟩, ⟨cf_Force_acting, ⟨_, cc_Force_acting⟩, ci_Force_acting⟩, ((fund_mk l_Force_acting c_Force_acting k_Force_acting).bindsN (ps := ["cls", "across", "up", "point"]) fun _ _ _ _ _ _ us hl => match us, hl with | [_, _, _, _], _ => rfl)⟩
    cm_Force_hanging := ⟨⟨cr_Force_hanging, cg_Force_hanging⟩, ⟨cf_Force_hanging, ⟨_, cc_Force_hanging⟩, ci_Force_hanging⟩, ((fund_mk l_Force_hanging c_Force_hanging k_Force_hanging).bindsN (ps := ["cls", "weight", "x"]) fun _ _ _ _ _ _ us hl => match us, hl with | [_, _, _], _ => rfl)⟩
    mt_Force_about := ⟨⟨pg_Force, hd_Force, po_Force, sa_Force⟩, ⟨mf_Force_about, fn_Force_about, k_Force_about⟩, ((fund_mk l_Force_about c_Force_about k_Force_about).bindsN (ps := ["self", "point"]) fun _ _ _ _ _ _ us hl => match us, hl with | [_, _], _ => rfl)⟩
    e_BadForce := ⟨⟨⟨_, _, _, _, _, _, _, _, _, _, _, _, _, _, _, x1_BadForce, x2_BadForce⟩, x3_BadForce, x4_BadForce, x5_BadForce, x6_BadForce⟩, x7_BadForce, x8_BadForce, fun_mk (st := si_BadForce) li_BadForce cdi_BadForce_ ki_BadForce, (fun_mk (st := si_BadForce) li_BadForce cdi_BadForce_ ki_BadForce).binds (ps := ["self", "what"]) fun _ _ _ _ _ _ us hl => match us, hl with | [_, _], _ => rfl, PySem.W.mg_of X G ac_BadForce⟩
    xn_BadForce_what := xn_BadForce_what
    e_BadLoad := ⟨⟨⟨_, _, _, _, _, _, _, _, _, _, _, _, _, _, _, x1_BadLoad, x2_BadLoad⟩, x3_BadLoad, x4_BadLoad, x5_BadLoad, x6_BadLoad⟩, x7_BadLoad, x8_BadLoad, fun_mk (st := si_BadLoad) li_BadLoad cdi_BadLoad_ ki_BadLoad, (fun_mk (st := si_BadLoad) li_BadLoad cdi_BadLoad_ ki_BadLoad).binds (ps := ["self", "what"]) fun _ _ _ _ _ _ us hl => match us, hl with | [_, _], _ => rfl, PySem.W.mg_of X G ac_BadLoad⟩
    xn_BadLoad_what := xn_BadLoad_what
    e_BadThrust := ⟨⟨⟨_, _, _, _, _, _, _, _, _, _, _, _, _, _, _, x1_BadThrust, x2_BadThrust⟩, x3_BadThrust, x4_BadThrust, x5_BadThrust, x6_BadThrust⟩, x7_BadThrust, x8_BadThrust, fun_mk (st := si_BadThrust) li_BadThrust cdi_BadThrust_ ki_BadThrust, (fun_mk (st := si_BadThrust) li_BadThrust cdi_BadThrust_ ki_BadThrust).binds (ps := ["self"]) fun _ _ _ _ _ _ us hl => match us, hl with | [_], _ => rfl, PySem.W.mg_of X G ac_BadThrust⟩
    xm_BadForce_BadForce := PySem.W.exm_ref e1_BadForce e2_BadForce e3_BadForce es_BadForce_BadForce
    xm_BadLoad_BadForce := PySem.W.exm_ref e1_BadForce e2_BadForce e3_BadForce es_BadLoad_BadForce
    xm_BadThrust_BadForce := PySem.W.exm_ref e1_BadForce e2_BadForce e3_BadForce es_BadThrust_BadForce
    y_BadForce := ⟨y1_BadForce, y2_BadForce, y3_BadForce, y4_BadForce, y5_BadForce, y6_BadForce, y7_BadForce, y8_BadForce⟩
    kt_Force_Force := kit_self
    kt_Force_bool := kit_bt (by decide +kernel) sb_Force_bool
    kt_Force_int := kit_bt (by decide +kernel) sb_Force_int
    kt_Force_list := kit_bt (by decide +kernel) sb_Force_list
    kt_Force_tuple := kit_bt (by decide +kernel) sb_Force_tuple
    kt_Load_Force := kit_own hq_Force hty_Force sb_Load_Force (ref_ne ne_Load_Force)
    kt_Load_bool := kit_bt (by decide +kernel) sb_Load_bool
    kt_Load_int := kit_bt (by decide +kernel) sb_Load_int
    kt_Load_list := kit_bt (by decide +kernel) sb_Load_list
    kt_Load_tuple := kit_bt (by decide +kernel) sb_Load_tuple
    kt_NoneType_Force := kit_own hq_Force hty_Force sb_NoneType_Force ty_ne
    kt_Thrust_Force := kit_own hq_Force hty_Force sb_Thrust_Force (ref_ne ne_Thrust_Force)
    kt_Thrust_bool := kit_bt (by decide +kernel) sb_Thrust_bool
    kt_Thrust_int := kit_bt (by decide +kernel) sb_Thrust_int
    kt_Thrust_list := kit_bt (by decide +kernel) sb_Thrust_list
    kt_Thrust_tuple := kit_bt (by decide +kernel) sb_Thrust_tuple
    kt_bool_Force := kit_own hq_Force hty_Force sb_bool_Force ty_ne
    kt_int_Force := kit_own hq_Force hty_Force sb_int_Force ty_ne
    kt_list_Force := kit_own hq_Force hty_Force sb_list_Force ty_ne
    kt_str_Force := kit_own hq_Force hty_Force sb_str_Force ty_ne
    kt_tuple_Force := kit_own hq_Force hty_Force sb_tuple_Force ty_ne
    isc_Force := ⟨⟨pg_Force, hd_Force, po_Force, sa_Force⟩, y5_Force, y6_Force, y7_Force, y8_Force⟩
    isc_Load := ⟨⟨pg_Load, hd_Load, po_Load, sa_Load⟩, y5_Load, y6_Load, y7_Load, y8_Load⟩
    isc_Thrust := ⟨⟨pg_Thrust, hd_Thrust, po_Thrust, sa_Thrust⟩, y5_Thrust, y6_Thrust, y7_Thrust, y8_Thrust⟩
    gi_MOST_STONES := PySem.W.mg_of X G zg_MOST_STONES
    n_all := PySem.W.mg_none_of X G z_all
    n_bool := PySem.W.mg_none_of X G z_bool
    n_int := PySem.W.mg_none_of X G z_int
    n_isinstance := PySem.W.mg_none_of X G z_isinstance
    n_len := PySem.W.mg_none_of X G z_len
    n_list := PySem.W.mg_none_of X G z_list
    n_range := PySem.W.mg_none_of X G z_range
    n_str := PySem.W.mg_none_of X G z_str
    n_tuple := PySem.W.mg_none_of X G z_tuple
    g_gcd := PySem.W.mg_of X G zi_gcd }
  exact ⟨(PySem.W.fnOf "law" "law" (defArgs s_law) (defBody s_law) (defScope s_law) .none kV_law dc_law pm_law an_law cd_law ct_law), fun s v => .of_eq rfl, fun base _ _ => ok_law good T⟩
theorem no_way (P : Program) (w : World) (H : Hp) (s : Shared) (e : Value) (s' : Shared) : L2.CX P w [] H s (fun _ _ _ => False) e s' → False := fun z => by
  obtain ⟨_, _, _, _, _, _, _, _, _, _, _, _, q⟩ := z
  exact q
theorem walk {l : PySem.W.OpenLaw} {q : Program} {loose : List Str} {XP : (Str → Option Value) → Heap → Prop} {YP : World → Heap → Prop} {d : DefRec} {K : Params → PySem.W.Frag} (hn : l.most = some 63) (hdf : d.params.defaults = [])
    (hY : ∀ (w : World) (h : Heap), YP w h → (K w.params).In h)
    (F : ∀ (w : World) (mg : Str → Option Value) (fa : Addr) (h : Heap), (K w.params).In h → h.Ns mainGlobals mg → mg d.name = some (.ref fa) →
      ∃ fd : FuncData, (∀ (s : Shared) (u : Value), BindsTo s fd ⟨[u], []⟩ [("_law_script", u)]) ∧ ∀ base : Heap, (K w.params).In base → base.Ns mainGlobals mg → FnOk l.prog w (K w.params) mg base (L2.CX l.prog w) 8 fa fd ["_law_script"] (spLaw (K w.params))) :
    PySem.W.WalkO q loose XP YP l.row.toRowW d [] (fun f vs => PySem.call f vs) :=
  L2.walk_of (n := 63) (k := 8) (x := "_law_script") (CX := fun w => L2.CX l.prog w) (sp := fun w => spLaw (K w.params)) hn (by decide) hdf ⟨rfl, by decide, by decide⟩ hY F (fun _ _ a ns hl _ hS => ⟨a, ns, rfl, hS, hl, fun _ => rfl⟩) fun w H s e s' z => no_way l.prog w H s e s' z
end K02

set_option Elab.async false
set_option linter.all false
open PySem PySem.W PyProof.Rows
set_option maxRecDepth 100000 in
set_option maxHeartbeats 0 in
theorem PySem.Challenge.cw_fourhinges_k02_forces_and_moments_holds : PySem.Challenge.rw_fourhinges_k02_forces_and_moments.Holds := by
  w_on; o_law; k_head; (case hw => w_witness2)
  k_fill
  refine K02.walk (l := PySem.Challenge.rw_fourhinges_k02_forces_and_moments) rfl rfl (fun w h Y => PySem.W.kIn_of Y) ?F
  case F =>
    intro w mg fa h KX G hmg
    refine' K02.all_mk KX G hmg ?a__law_take ?l__law_take ?c__law_take ?k__law_take ?a__law_of ?l__law_of ?c__law_of ?k__law_of ?a__law_number ?l__law_number ?c__law_number ?k__law_number ?a__law_is_number ?l__law_is_number ?c__law_is_number ?k__law_is_number ?a__law_numbers ?l__law_numbers ?c__law_numbers ?k__law_numbers ?a__law_right ?l__law_right ?c__law_right ?k__law_right ?a__law_moment ?l__law_moment ?c__law_moment ?k__law_moment ?a_is_number ?l_is_number ?c_is_number ?k_is_number ?l_Force___init__ ?c_Force___init__ ?k_Force___init__ ?a__law_refusals ?l__law_refusals ?c__law_refusals ?k__law_refusals ?l_Force___sub__ ?c_Force___sub__ ?k_Force___sub__ ?l_Force___add__ ?c_Force___add__ ?k_Force___add__ ?l_Force___mul__ ?c_Force___mul__ ?k_Force___mul__ ?l_Force___neg__ ?c_Force___neg__ ?k_Force___neg__ ?l_Force_none ?c_Force_none ?k_Force_none ?l_Force_is_none ?c_Force_is_none ?k_Force_is_none ?a__law_signs ?l__law_signs ?c__law_signs ?k__law_signs ?l_Force___eq__ ?c_Force___eq__ ?k_Force___eq__ ?a_is_row ?l_is_row ?c_is_row ?k_is_row ?l_Load___init__ ?c_Load___init__ ?k_Load___init__ ?l_Thrust___init__ ?c_Thrust___init__ ?k_Thrust___init__ ?lt_Thrust___init__ ?a__law_equal ?l__law_equal ?c__law_equal ?k__law_equal ?l_Force_about ?c_Force_about ?k_Force_about ?l_Force_acting ?c_Force_acting ?k_Force_acting ?l_Force_hanging ?c_Force_hanging ?k_Force_hanging ?a__law_about ?l__law_about ?c__law_about ?k__law_about ?a__law_pen ?l__law_pen ?c__law_pen ?k__law_pen ?a_law ?l_law ?c_law ?k_law ?ac_BridgeError ?ac_BadRatio ?ac_BadForce ?ac_BadLoad ?ac_OtherSize ?ac_NoStone ?ac_BadThrust ?ac_Force ?ac_Load ?ac_Thrust ?pg_Force ?hd_Force ?po_Force ?sa_Force ?na_Force_moment ?na_Force_up ?na_Force_across ?pg_Load ?hd_Load ?po_Load ?sa_Load ?na_Load_forces ?pg_Thrust ?hd_Thrust ?po_Thrust ?sa_Thrust ?na_Thrust_force ?na_Thrust_parts ?mk_Force ?fi_Force ?fn_Force___init__ ?kc_Force ?mk_Load ?fi_Load ?fn_Load___init__ ?kc_Load ?mk_Thrust ?fi_Thrust ?fn_Thrust___init__ ?kc_Thrust ?sf_Force ?of_Force___sub__ ?fn_Force___sub__ ?of_Force___add__ ?fn_Force___add__ ?of_Force___mul__ ?fn_Force___mul__ ?or_Force___mul__ ?o1_Force___mul__ ?o2_Force___mul__ ?o3_Force___mul__ ?of_Force___neg__ ?fn_Force___neg__ ?of_Force___eq__ ?fn_Force___eq__ ?nq_Force_NoneType ?nq_Force_bool ?nq_Force_int ?nq_Force_str ?nq_Force_list ?nq_Force_tuple ?nq_Force_Force ?nq_Force_Load ?nq_Force_Thrust ?ne_Force ?so_Force ?pf_Force_is_none ?pp_Force_is_none ?pt_Force_is_none ?pr_Force_is_none ?cr_Force_none ?cg_Force_none ?cf_Force_none ?cc_Force_none ?ci_Force_none ?cr_Force_acting ?cg_Force_acting ?cf_Force_acting ?cc_Force_acting ?ci_Force_acting ?cr_Force_hanging ?cg_Force_hanging ?cf_Force_hanging ?cc_Force_hanging ?ci_Force_hanging ?mf_Force_about ?fn_Force_about ?x1_BadForce ?x2_BadForce ?x3_BadForce ?x4_BadForce ?x5_BadForce ?x6_BadForce ?x7_BadForce ?x8_BadForce ?li_BadForce ?cdi_BadForce_ ?ki_BadForce ?xn_BadForce_what ?x1_BadLoad ?x2_BadLoad ?x3_BadLoad ?x4_BadLoad ?x5_BadLoad ?x6_BadLoad ?x7_BadLoad ?x8_BadLoad ?li_BadLoad ?cdi_BadLoad_ ?ki_BadLoad ?xn_BadLoad_what ?x1_BadThrust ?x2_BadThrust ?x3_BadThrust ?x4_BadThrust ?x5_BadThrust ?x6_BadThrust ?x7_BadThrust ?x8_BadThrust ?li_BadThrust ?cdi_BadThrust_ ?ki_BadThrust ?e1_BadForce ?e2_BadForce ?e3_BadForce ?es_BadForce_BadForce ?es_BadLoad_BadForce ?es_BadThrust_BadForce ?y1_BadForce ?y2_BadForce ?y3_BadForce ?y4_BadForce ?y5_BadForce ?y6_BadForce ?y7_BadForce ?y8_BadForce ?sb_Force_bool ?sb_Force_int ?sb_Force_list ?sb_Force_tuple ?hq_Force ?hty_Force ?sb_Load_Force ?ne_Load_Force ?sb_Load_bool ?sb_Load_int ?sb_Load_list ?sb_Load_tuple ?sb_NoneType_Force ?sb_Thrust_Force ?ne_Thrust_Force ?sb_Thrust_bool ?sb_Thrust_int ?sb_Thrust_list ?sb_Thrust_tuple ?sb_bool_Force ?sb_int_Force ?sb_list_Force ?sb_str_Force ?sb_tuple_Force ?y5_Force ?y6_Force ?y7_Force ?y8_Force ?y5_Load ?y6_Load ?y7_Load ?y8_Load ?y5_Thrust ?y6_Thrust ?y7_Thrust ?y8_Thrust ?zg_MOST_STONES ?z_all ?z_bool ?z_int ?z_isinstance ?z_len ?z_list ?z_range ?z_str ?z_tuple ?zi_gcd
    (case a__law_take => k_is)
    (case a__law_of => k_is)
    (case a__law_number => k_is)
    (case a__law_is_number => k_is)
    (case a__law_numbers => k_is)
    (case a__law_right => k_is)
    (case a__law_moment => k_is)
    (case a_is_number => k_is)
    (case a__law_refusals => k_is)
    (case a__law_signs => k_is)
    (case a_is_row => k_is)
    (case a__law_equal => k_is)
    (case a__law_about => k_is)
    (case a__law_pen => k_is)
    (case a_law => k_is)
    (case ac_BridgeError => k_is)
    (case ac_BadRatio => k_is)
    (case ac_BadForce => k_is)
    (case ac_BadLoad => k_is)
    (case ac_OtherSize => k_is)
    (case ac_NoStone => k_is)
    (case ac_BadThrust => k_is)
    (case ac_Force => k_is)
    (case ac_Load => k_is)
    (case ac_Thrust => k_is)
    (case fi_Force => k_is)
    (case fi_Load => k_is)
    (case fi_Thrust => k_is)
    (case of_Force___sub__ => k_is)
    (case of_Force___add__ => k_is)
    (case of_Force___mul__ => k_is)
    (case of_Force___neg__ => k_is)
    (case of_Force___eq__ => k_is)
    (case pf_Force_is_none => k_is)
    (case cf_Force_none => k_is)
    (case cf_Force_acting => k_is)
    (case cf_Force_hanging => k_is)
    (case mf_Force_about => k_is)
    (case x7_BadForce => k_is)
    (case x7_BadLoad => k_is)
    (case x7_BadThrust => k_is)
    (case pr_Force_is_none => k_is)
    (case cc_Force_none => k_is)
    (case cc_Force_acting => k_is)
    (case cc_Force_hanging => k_is)
    (case l__law_take => k_is)
    (case c__law_take => k_is)
    (case k__law_take => k_is)
    (case l__law_of => k_is)
    (case c__law_of => k_is)
    (case k__law_of => k_is)
    (case l__law_number => k_is)
    (case c__law_number => k_is)
    (case k__law_number => k_is)
    (case l__law_is_number => k_is)
    (case c__law_is_number => k_is)
    (case k__law_is_number => k_is)
    (case l__law_numbers => k_is)
    (case c__law_numbers => k_is)
    (case k__law_numbers => k_is)
    (case l__law_right => k_is)
    (case c__law_right => k_is)
    (case k__law_right => k_is)
    (case l__law_moment => k_is)
    (case c__law_moment => k_is)
    (case k__law_moment => k_is)
    (case l_is_number => k_is)
    (case c_is_number => k_is)
    (case k_is_number => k_is)
    (case l_Force___init__ => k_is)
    (case c_Force___init__ => k_is)
    (case k_Force___init__ => k_is)
    (case l__law_refusals => k_is)
    (case c__law_refusals => k_is)
    (case k__law_refusals => k_is)
    (case l_Force___sub__ => k_is)
    (case c_Force___sub__ => k_is)
    (case k_Force___sub__ => k_is)
    (case l_Force___add__ => k_is)
    (case c_Force___add__ => k_is)
    (case k_Force___add__ => k_is)
    (case l_Force___mul__ => k_is)
    (case c_Force___mul__ => k_is)
    (case k_Force___mul__ => k_is)
    (case l_Force___neg__ => k_is)
    (case c_Force___neg__ => k_is)
    (case k_Force___neg__ => k_is)
    (case l_Force_none => k_is)
    (case c_Force_none => k_is)
    (case k_Force_none => k_is)
    (case l_Force_is_none => k_is)
    (case c_Force_is_none => k_is)
    (case k_Force_is_none => k_is)
    (case l__law_signs => k_is)
    (case c__law_signs => k_is)
    (case k__law_signs => k_is)
    (case l_Force___eq__ => k_is)
    (case c_Force___eq__ => k_is)
    (case k_Force___eq__ => k_is)
    (case l_is_row => k_is)
    (case c_is_row => k_is)
    (case k_is_row => k_is)
    (case l_Load___init__ => k_is)
    (case c_Load___init__ => k_is)
    (case k_Load___init__ => k_is)
    (case l_Thrust___init__ => k_is)
    (case c_Thrust___init__ => k_is)
    (case k_Thrust___init__ => k_is)
    (case lt_Thrust___init__ => k_is)
    (case l__law_equal => k_is)
    (case c__law_equal => k_is)
    (case k__law_equal => k_is)
    (case l_Force_about => k_is)
    (case c_Force_about => k_is)
    (case k_Force_about => k_is)
    (case l_Force_acting => k_is)
    (case c_Force_acting => k_is)
    (case k_Force_acting => k_is)
    (case l_Force_hanging => k_is)
    (case c_Force_hanging => k_is)
    (case k_Force_hanging => k_is)
    (case l__law_about => k_is)
    (case c__law_about => k_is)
    (case k__law_about => k_is)
    (case l__law_pen => k_is)
    (case c__law_pen => k_is)
    (case k__law_pen => k_is)
    (case l_law => k_is)
    (case c_law => k_is)
    (case k_law => k_is)
    (case pg_Force => k_is)
    (case hd_Force => k_is)
    (case po_Force => k_is)
    (case sa_Force => k_is)
    (case na_Force_moment => k_is)
    (case na_Force_up => k_is)
    (case na_Force_across => k_is)
    (case pg_Load => k_is)
    (case hd_Load => k_is)
    (case po_Load => k_is)
    (case sa_Load => k_is)
    (case na_Load_forces => k_is)
    (case pg_Thrust => k_is)
    (case hd_Thrust => k_is)
    (case po_Thrust => k_is)
    (case sa_Thrust => k_is)
    (case na_Thrust_force => k_is)
    (case na_Thrust_parts => k_is)
    (case mk_Force => k_is)
    (case fn_Force___init__ => k_is)
    (case kc_Force => k_is)
    (case mk_Load => k_is)
    (case fn_Load___init__ => k_is)
    (case kc_Load => k_is)
    (case mk_Thrust => k_is)
    (case fn_Thrust___init__ => k_is)
    (case kc_Thrust => k_is)
    (case sf_Force => k_is)
    (case fn_Force___sub__ => k_is)
    (case fn_Force___add__ => k_is)
    (case fn_Force___mul__ => k_is)
    (case or_Force___mul__ => k_is)
    (case o1_Force___mul__ => k_is)
    (case o2_Force___mul__ => k_is)
    (case o3_Force___mul__ => k_is)
    (case fn_Force___neg__ => k_is)
    (case fn_Force___eq__ => k_is)
    (case nq_Force_NoneType => k_is)
    (case nq_Force_bool => k_is)
    (case nq_Force_int => k_is)
    (case nq_Force_str => k_is)
    (case nq_Force_list => k_is)
    (case nq_Force_tuple => k_is)
    (case nq_Force_Force => k_is)
    (case nq_Force_Load => k_is)
    (case nq_Force_Thrust => k_is)
    (case ne_Force => k_is)
    (case so_Force => k_is)
    (case pp_Force_is_none => k_is)
    (case pt_Force_is_none => k_is)
    (case cr_Force_none => k_is)
    (case cg_Force_none => k_is)
    (case ci_Force_none => k_is)
    (case cr_Force_acting => k_is)
    (case cg_Force_acting => k_is)
    (case ci_Force_acting => k_is)
    (case cr_Force_hanging => k_is)
    (case cg_Force_hanging => k_is)
    (case ci_Force_hanging => k_is)
    (case fn_Force_about => k_is)
    (case x1_BadForce => k_is)
    (case x2_BadForce => decide +kernel)
    (case x3_BadForce => k_is)
    (case x4_BadForce => k_is)
    (case x5_BadForce => k_is)
    (case x6_BadForce => k_is)
    (case x8_BadForce => k_is)
    (case li_BadForce => k_is)
    (case cdi_BadForce_ => k_is)
    (case ki_BadForce => k_is)
    (case xn_BadForce_what => k_is)
    (case x1_BadLoad => k_is)
    (case x2_BadLoad => decide +kernel)
    (case x3_BadLoad => k_is)
    (case x4_BadLoad => k_is)
    (case x5_BadLoad => k_is)
    (case x6_BadLoad => k_is)
    (case x8_BadLoad => k_is)
    (case li_BadLoad => k_is)
    (case cdi_BadLoad_ => k_is)
    (case ki_BadLoad => k_is)
    (case xn_BadLoad_what => k_is)
    (case x1_BadThrust => k_is)
    (case x2_BadThrust => decide +kernel)
    (case x3_BadThrust => k_is)
    (case x4_BadThrust => k_is)
    (case x5_BadThrust => k_is)
    (case x6_BadThrust => k_is)
    (case x8_BadThrust => k_is)
    (case li_BadThrust => k_is)
    (case cdi_BadThrust_ => k_is)
    (case ki_BadThrust => k_is)
    (case e1_BadForce => k_is)
    (case e2_BadForce => k_is)
    (case e3_BadForce => k_is)
    (case es_BadForce_BadForce => k_is)
    (case es_BadLoad_BadForce => k_is)
    (case es_BadThrust_BadForce => k_is)
    (case y1_BadForce => k_is)
    (case y2_BadForce => k_is)
    (case y3_BadForce => k_is)
    (case y4_BadForce => k_is)
    (case y5_BadForce => k_is)
    (case y6_BadForce => k_is)
    (case y7_BadForce => k_is)
    (case y8_BadForce => k_is)
    (case sb_Force_bool => k_is)
    (case sb_Force_int => k_is)
    (case sb_Force_list => k_is)
    (case sb_Force_tuple => k_is)
    (case hq_Force => k_is)
    (case hty_Force => k_is)
    (case sb_Load_Force => k_is)
    (case ne_Load_Force => decide)
    (case sb_Load_bool => k_is)
    (case sb_Load_int => k_is)
    (case sb_Load_list => k_is)
    (case sb_Load_tuple => k_is)
    (case sb_NoneType_Force => k_is)
    (case sb_Thrust_Force => k_is)
    (case ne_Thrust_Force => decide)
    (case sb_Thrust_bool => k_is)
    (case sb_Thrust_int => k_is)
    (case sb_Thrust_list => k_is)
    (case sb_Thrust_tuple => k_is)
    (case sb_bool_Force => k_is)
    (case sb_int_Force => k_is)
    (case sb_list_Force => k_is)
    (case sb_str_Force => k_is)
    (case sb_tuple_Force => k_is)
    (case y5_Force => k_is)
    (case y6_Force => k_is)
    (case y7_Force => k_is)
    (case y8_Force => k_is)
    (case y5_Load => k_is)
    (case y6_Load => k_is)
    (case y7_Load => k_is)
    (case y8_Load => k_is)
    (case y5_Thrust => k_is)
    (case y6_Thrust => k_is)
    (case y7_Thrust => k_is)
    (case y8_Thrust => k_is)
    (case zg_MOST_STONES => k_is)
    (case z_all => k_is)
    (case z_bool => k_is)
    (case z_int => k_is)
    (case z_isinstance => k_is)
    (case z_len => k_is)
    (case z_list => k_is)
    (case z_range => k_is)
    (case z_str => k_is)
    (case z_tuple => k_is)
    (case zi_gcd => k_is)

