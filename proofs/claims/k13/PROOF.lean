import PyProof.Rows.All
import Wide.All
import OpenK.AllK
import Wide.FinOn
import HandS.ForMost
import HandS.Exc
import HandS.TryOnly
import HandS.ExcOwn
import HandS.WordsExc
import HandS.ExcInit
import HandS.ExcIs
import HandS.ExcField
import HandS.Wide
import HandS.Gcd
import HandS.IsInst
import HandS.Style
import HandS.Flow
import HandS.Conv
import HandS.ClsMeth
import HandS.Property
import HandS.CallSlots
import KE.KOpsOwn
import HandS.Defaults
import KE.KExcIs
import PyProof.InstNe
import HandS.TupAny
import KE.GoesEnum
import PyProof.ReprRoads
import PyProof.ReprBulk
import HandS.Deep
import HandS.IterVal
import HandS.TupMul
import PySem.Challenge.RW_fourhinges_k13_stones_turn_about_hinges
set_option Elab.async false
set_option linter.all false
set_option maxRecDepth 100000
set_option maxHeartbeats 4000000
/-! ## Trees: data as plain values, a program's defs as plain functions over them -/
namespace Tw
open PySem L2

inductive D where
  | non | bl (b : Bool) | int (i : Int) | str (x : Str) | ty (n : String) | cls (n : Nat)
  | lst (xs : List D) | tup (xs : List D) | ins (n : Nat) (ns : List Str) (xs : List D) | err (c : Nat) (ns : List Str) (xs : List D) | pen | bag | self

mutual
/-- neither the exception that is handled nor the object that is being made -/
def clear : D → Bool
  | .err _ _ _ => false
  | .self => false
  | .lst xs => clearL xs
  | .tup xs => clearL xs
  | .ins _ _ xs => clearL xs
  | .non => true
  | .bl _ => true
  | .int _ => true
  | .str _ => true
  | .ty _ => true
  | .cls _ => true
  | .pen => true
  | .bag => true
def clearL : List D → Bool
  | [] => true
  | d :: ds => clear d && clearL ds
end
/-- the state of the pen -/
structure Pen where
  cells : List Int
  next : Nat
  digits : Int
  rest : Int
  seed : Int
  turn : Int
  obj : List (Str × D) := []
  ocls : Nat := 0

inductive Out (α : Type) where
  | ok (a : α) (s : Pen)
  | exc (c : Nat) (ns : List Str) (xs : List D) (s : Pen)
  | bad

abbrev M (α : Type) := Pen → Out α
def mret {α : Type} (a : α) : M α := fun s => .ok a s
def mbad {α : Type} : M α := fun _ => .bad
def obind {α β : Type} (o : Out α) (f : α → M β) : Out β := match o with
  | .ok a s' => f a s'
  | .exc c ns xs s' => .exc c ns xs s'
  | .bad => .bad
def mbind {α β : Type} (m : M α) (f : α → M β) : M β := fun s => obind (m s) f

/-- the pen's address; an object that is being made: its address, class and dict; the addresses that no tree may name -/
structure Fm where
  pen : Option (Addr × Option Addr)
  obj : Option (Addr × Nat × Addr)
  out : Addr → Prop
  okp : ∀ a k, pen = some (a, k) → out a
  oko : ∀ x c d, obj = some (x, c, d) → out x
  neo : ∀ a k x c d, pen = some (a, k) → obj = some (x, c, d) → x ≠ a
/-- what may change while others look on -/
def Fm.mut (p : Fm) (a : Addr) : Prop := (∃ k, p.pen = some (a, k)) ∨ ∃ c d, p.obj = some (a, c, d)
theorem Fm.no {p : Fm} {a : Addr} (h : ¬ p.out a) : ¬ p.mut a := fun z => z.elim (fun ⟨k, e⟩ => h (p.okp a k e)) fun ⟨c, d, e⟩ => h (p.oko a c d e)
/-- the classes' addresses; the exception that is being handled: where it stands, its class, its dict -/
structure Gt where
  cls : Nat → Addr
  err : Option (Addr × Nat × Option Addr)
abbrev Gt.bare (G : Gt) : Gt := ⟨G.cls, none⟩
section
variable (G : Gt)
mutual
def Rep (p : Fm) (H : Hp) : D → V → Prop
  | .non, v => v = .non
  | .bl b, v => v = .bl b
  | .int i, v => v = .int i
  | .str x, v => v = .str x
  | .ty n, v => v = .ty n
  | .cls n, v => v = .ref (G.cls n)
  | .pen, v => ∃ a c, p.pen = some (a, some c) ∧ v = .ref a
  | .bag, v => ∃ a, p.pen = some (a, none) ∧ v = .ref a
  | .self, v => ∃ a c d, p.obj = some (a, c, d) ∧ v = .ref a
  | .lst ds, v => ∃ a vs, v = .ref a ∧ ¬ p.out a ∧ H a = some (.lst vs) ∧ RepL p H ds vs
  | .tup ds, v => ∃ a vs, v = .ref a ∧ ¬ p.out a ∧ H a = some (.tup vs) ∧ RepL p H ds vs
  | .err c ns ds, v => ∃ a dd vs, v = .ref a ∧ G.err = some (a, c, dd) ∧ RepL p H ds vs ∧ ((ns = [] ∧ dd = none) ∨ ∃ b gs, ns ≠ [] ∧ dd = some b ∧ ¬ p.out b ∧ H b = some (.xd gs) ∧ ∀ (i : Nat) (f : Str) (v : V), ns[i]? = some f → vs[i]? = some v → gs.lookup f = some v)
  | .ins n ns ds, v => ∃ a dx vs, v = .ref a ∧ ¬ p.out a ∧ H a = some (.ins (G.cls n) dx (ns.zip vs)) ∧ ns.length = vs.length ∧ RepL p H ds vs
def RepL (p : Fm) (H : Hp) : List D → List V → Prop
  | [], vs => vs = []
  | d :: ds, vs => ∃ v r, vs = v :: r ∧ Rep p H d v ∧ RepL p H ds r
end

def penKV (c : Addr) (s : Pen) : List (Key × V) :=
  [(Sum.inr "cells", .ref c), (Sum.inr "next", .int s.next), (Sum.inr "digits", .int s.digits), (Sum.inr "rest", .int s.rest), (Sum.inr "seed", .int s.seed), (Sum.inr "turn", .int s.turn)]
def PenR (p : Fm) (H : Hp) (a : Addr) (k : Option Addr) (s : Pen) : Prop := (k = none ∧ H a = some (.lst [.int s.rest, .int s.seed, .int s.turn])) ∨
  (∃ c, k = some c ∧ ¬ p.out c ∧ H a = some (.dK (penKV c s)) ∧ H c = some (.lst (s.cells.map V.int)))
/-- what stands where an object is being made: an instance, or a list that grows (class number gro) -/
def gro : Nat := 1000000
def objO (c : Nat) (dx : Addr) (ns : List Str) (vs : List V) : HO := if c = gro then .lst vs else .ins (G.cls c) dx (ns.zip vs)
def PenOk (p : Fm) (H : Hp) (s : Pen) : Prop := (∀ a k, p.pen = some (a, k) → PenR p H a k s) ∧
  (∀ x c dx, p.obj = some (x, c, dx) → ∃ vs, H x = some (objO G c dx (s.obj.map (·.1)) vs) ∧ (s.obj.length = vs.length ∧ clearL (s.obj.map (·.2)) = true ∧ c = s.ocls) ∧ RepL (Gt.bare G) p H (s.obj.map (·.2)) vs) ∧ ∀ a, p.out a → ∃ o, H a = some o
/-- all stands but the pen -/
def Keep (p : Fm) (H H' : Hp) : Prop := ∀ a o, ¬ p.mut a → H a = some o → H' a = some o
/-- an exception's own dict -/
def ExcOk (p : Fm) (H : Hp) (ns : List Str) (xs : List D) (dd : Option Addr) : Prop :=
  ∃ vs, RepL G p H xs vs ∧ ((ns = [] ∧ dd = none) ∨ ∃ b gs, ns ≠ [] ∧ dd = some b ∧ ¬ p.out b ∧ H b = some (.xd gs) ∧ ∀ (i : Nat) (f : Str) (v : V), ns[i]? = some f → vs[i]? = some v → gs.lookup f = some v)
end

theorem Keep.refl {p : Fm} {H : Hp} : Keep p H H := fun _ _ _ h => h
theorem Keep.trans {p : Fm} {H H1 H2 : Hp} (a : Keep p H H1) (b : Keep p H1 H2) : Keep p H H2 := fun x o n h => b x o n (a x o n h)
theorem Keep.new {p : Fm} {H : Hp} {a : Addr} {o : HO} (h : H a = none) : Keep p H (upd H a o) := fun b u _ e => by
  rw [upd_ne (ne_of_none e h)]; exact e

section
variable {K : PySem.W.Frag} {G : Gt} {p : Fm} {H H' : Hp}
def PenAt (_ : Fm) (_ : Hp) : Prop := True
theorem PenOk.at {s : Pen} (_ : PenOk G p H s) : PenAt p H := trivial
theorem PenOk.free {s : Pen} (h : PenOk G p H s) {a : Addr} (n : H a = none) : ¬ p.out a := fun z => by
  obtain ⟨o, e⟩ := h.2.2 a z
  rw [n] at e
  cases e
mutual
theorem rep_keep (h : PenAt p H) (k : Keep p H H') : ∀ (d : D) (v : V), Rep G p H d v → Rep G p H' d v
  | .non, _, q => q
  | .bl _, _, q => q
  | .int _, _, q => q
  | .str _, _, q => q
  | .ty _, _, q => q
  | .cls _, _, q => q
  | .pen, _, q => q
  | .bag, _, q => q
  | .self, _, q => q
  | .lst ds, v, q => by
    obtain ⟨a, vs, e, q0, q1, q2⟩ := q
    exact ⟨a, vs, e, q0, k _ _ (Fm.no q0) q1, repL_keep h k ds vs q2⟩
  | .tup ds, v, q => by
    obtain ⟨a, vs, e, q0, q1, q2⟩ := q
    exact ⟨a, vs, e, q0, k _ _ (Fm.no q0) q1, repL_keep h k ds vs q2⟩
  | .err c ns ds, v, q => by
    obtain ⟨a, dd, vs, e, q0, q2, q3⟩ := q
    refine ⟨a, dd, vs, e, q0, repL_keep h k ds vs q2, ?_⟩
    rcases q3 with q3 | ⟨b, gs, e0, e1, e2, e3, e4⟩
    · exact .inl q3
    · exact .inr ⟨b, gs, e0, e1, e2, k _ _ (Fm.no e2) e3, e4⟩
  | .ins n ns ds, v, q => by
    obtain ⟨a, dx, vs, e, q0, q1, q3, q2⟩ := q
    exact ⟨a, dx, vs, e, q0, k _ _ (Fm.no q0) q1, q3, repL_keep h k ds vs q2⟩
theorem repL_keep (h : PenAt p H) (k : Keep p H H') : ∀ (ds : List D) (vs : List V), RepL G p H ds vs → RepL G p H' ds vs
  | [], _, q => q
  | d :: ds, vs, q => by
    obtain ⟨v, r, e, q1, q2⟩ := q
    exact ⟨v, r, e, rep_keep h k d v q1, repL_keep h k ds r q2⟩
end
/-! another frame -/
mutual
theorem rep_out {q : Fm} (hp : q.pen = p.pen) (hb : q.obj = p.obj) (ho : ∀ a o, H a = some o → ¬ p.out a → ¬ q.out a) : ∀ (d : D) (v : V), Rep G p H d v → Rep G q H d v
  | .non, _, h => h
  | .bl _, _, h => h
  | .int _, _, h => h
  | .str _, _, h => h
  | .ty _, _, h => h
  | .cls _, _, h => h
  | .pen, _, h => by obtain ⟨a, c, e, z⟩ := h; exact ⟨a, c, hp.trans e, z⟩
  | .bag, _, h => by obtain ⟨a, e, z⟩ := h; exact ⟨a, hp.trans e, z⟩
  | .self, _, h => by obtain ⟨a, c, d, e, z⟩ := h; exact ⟨a, c, d, hb.trans e, z⟩
  | .lst ds, v, h => by
    obtain ⟨a, vs, e, q0, q1, q2⟩ := h
    exact ⟨a, vs, e, ho _ _ q1 q0, q1, repL_out hp hb ho ds vs q2⟩
  | .tup ds, v, h => by
    obtain ⟨a, vs, e, q0, q1, q2⟩ := h
    exact ⟨a, vs, e, ho _ _ q1 q0, q1, repL_out hp hb ho ds vs q2⟩
  | .err c ns ds, v, h => by
    obtain ⟨a, dd, vs, e, q0, q2, q3⟩ := h
    refine ⟨a, dd, vs, e, q0, repL_out hp hb ho ds vs q2, ?_⟩
    rcases q3 with q3 | ⟨b, gs, e0, e1, e2, e3, e4⟩
    · exact .inl q3
    · exact .inr ⟨b, gs, e0, e1, ho _ _ e3 e2, e3, e4⟩
  | .ins n ns ds, v, h => by
    obtain ⟨a, dx, vs, e, q0, q1, q3, q2⟩ := h
    exact ⟨a, dx, vs, e, ho _ _ q1 q0, q1, q3, repL_out hp hb ho ds vs q2⟩
theorem repL_out {q : Fm} (hp : q.pen = p.pen) (hb : q.obj = p.obj) (ho : ∀ a o, H a = some o → ¬ p.out a → ¬ q.out a) : ∀ (ds : List D) (vs : List V), RepL G p H ds vs → RepL G q H ds vs
  | [], _, h => h
  | d :: ds, vs, h => by
    obtain ⟨v, r, e, q1, q2⟩ := h
    exact ⟨v, r, e, rep_out hp hb ho d v q1, repL_out hp hb ho ds r q2⟩
end
/-! a change at an address that no tree names -/
mutual
theorem rep_upd {a0 : Addr} {o0 : HO} (ha : p.out a0) : ∀ (d : D) (v : V), Rep G p H d v → Rep G p (upd H a0 o0) d v
  | .non, _, h => h
  | .bl _, _, h => h
  | .int _, _, h => h
  | .str _, _, h => h
  | .ty _, _, h => h
  | .cls _, _, h => h
  | .pen, _, h => h
  | .bag, _, h => h
  | .self, _, h => h
  | .lst ds, v, h => by
    obtain ⟨a, vs, e, q0, q1, q2⟩ := h
    exact ⟨a, vs, e, q0, by rw [upd_ne (fun z => q0 (by rw [z]; exact ha))]; exact q1, repL_upd ha ds vs q2⟩
  | .tup ds, v, h => by
    obtain ⟨a, vs, e, q0, q1, q2⟩ := h
    exact ⟨a, vs, e, q0, by rw [upd_ne (fun z => q0 (by rw [z]; exact ha))]; exact q1, repL_upd ha ds vs q2⟩
  | .err c ns ds, v, h => by
    obtain ⟨a, dd, vs, e, q0, q2, q3⟩ := h
    refine ⟨a, dd, vs, e, q0, repL_upd ha ds vs q2, ?_⟩
    rcases q3 with q3 | ⟨b, gs, e0, e1, e2, e3, e4⟩
    · exact .inl q3
    · exact .inr ⟨b, gs, e0, e1, e2, by rw [upd_ne (fun z => e2 (by rw [z]; exact ha))]; exact e3, e4⟩
  | .ins n ns ds, v, h => by
    obtain ⟨a, dx, vs, e, q0, q1, q3, q2⟩ := h
    exact ⟨a, dx, vs, e, q0, by rw [upd_ne (fun z => q0 (by rw [z]; exact ha))]; exact q1, q3, repL_upd ha ds vs q2⟩
theorem repL_upd {a0 : Addr} {o0 : HO} (ha : p.out a0) : ∀ (ds : List D) (vs : List V), RepL G p H ds vs → RepL G p (upd H a0 o0) ds vs
  | [], _, h => h
  | d :: ds, vs, h => by
    obtain ⟨v, r, e, q1, q2⟩ := h
    exact ⟨v, r, e, rep_upd ha d v q1, repL_upd ha ds r q2⟩
end
/-! clear data, whatever is made or handled -/
mutual
theorem rep_move {G' : Gt} {q : Fm} (hc : G'.cls = G.cls) (hp : q.pen = p.pen) (ho : ∀ a o, H a = some o → ¬ p.out a → ¬ q.out a) : ∀ (d : D) (v : V), clear d = true → Rep G p H d v → Rep G' q H d v
  | .non, _, _, h => h
  | .bl _, _, _, h => h
  | .int _, _, _, h => h
  | .str _, _, _, h => h
  | .ty _, _, _, h => h
  | .cls n, v, _, h => by show v = .ref (G'.cls n); rw [hc]; exact h
  | .pen, _, _, h => by obtain ⟨a, c, e, z⟩ := h; exact ⟨a, c, hp.trans e, z⟩
  | .bag, _, _, h => by obtain ⟨a, e, z⟩ := h; exact ⟨a, hp.trans e, z⟩
  | .self, _, e, _ => by cases e
  | .err _ _ _, _, e, _ => by cases e
  | .lst ds, v, e, h => by
    obtain ⟨a, vs, e1, q0, q1, q2⟩ := h
    exact ⟨a, vs, e1, ho _ _ q1 q0, q1, repL_move hc hp ho ds vs e q2⟩
  | .tup ds, v, e, h => by
    obtain ⟨a, vs, e1, q0, q1, q2⟩ := h
    exact ⟨a, vs, e1, ho _ _ q1 q0, q1, repL_move hc hp ho ds vs e q2⟩
  | .ins n ns ds, v, e, h => by
    obtain ⟨a, dx, vs, e1, q0, q1, q3, q2⟩ := h
    exact ⟨a, dx, vs, e1, ho _ _ q1 q0, by rw [hc]; exact q1, q3, repL_move hc hp ho ds vs e q2⟩
theorem repL_move {G' : Gt} {q : Fm} (hc : G'.cls = G.cls) (hp : q.pen = p.pen) (ho : ∀ a o, H a = some o → ¬ p.out a → ¬ q.out a) : ∀ (ds : List D) (vs : List V), clearL ds = true → RepL G p H ds vs → RepL G' q H ds vs
  | [], _, _, h => h
  | d :: ds, vs, e, h => by
    obtain ⟨v, r, e1, q1, q2⟩ := h
    have e' : (clear d && clearL ds) = true := e
    rw [Bool.and_eq_true] at e'
    exact ⟨v, r, e1, rep_move hc hp ho d v e'.1 q1, repL_move hc hp ho ds r e'.2 q2⟩
end
theorem PenR.keep {s : Pen} {a : Addr} {kd : Option Addr} (h : PenR p H a kd s) (ha : H' a = H a) (k : ∀ c o, ¬ p.out c → H c = some o → H' c = some o) : PenR p H' a kd s := by
  rcases h with ⟨e, h⟩ | ⟨c, e, h0, h1, h2⟩
  · exact .inl ⟨e, ha.trans h⟩
  · exact .inr ⟨c, e, h0, ha.trans h1, k c _ h0 h2⟩
/-- a new object leaves the pen -/
theorem PenOk.new {s : Pen} (h : PenOk G p H s) {a : Addr} {o : HO} (n : H a = none) : PenOk G p (upd H a o) s := by
  have hk : Keep p H (upd H a o) := Keep.new n
  have same : ∀ b, p.out b → upd H a o b = H b := fun b hb => upd_ne (fun z => h.free n (by rw [← z]; exact hb))
  refine ⟨fun b kd e => (h.1 b kd e).keep (same b (p.okp b kd e)) fun c u _ hc => by rw [upd_ne (ne_of_none hc n)]; exact hc, fun x c dx e => ?_, fun b hb => ?_⟩
  · obtain ⟨vs, h1, hl, h2⟩ := h.2.1 x c dx e
    exact ⟨vs, (same x (p.oko x c dx e)).trans h1, hl, repL_keep trivial hk _ _ h2⟩
  · obtain ⟨u, h1⟩ := h.2.2 b hb
    exact ⟨u, (same b hb).trans h1⟩
theorem repL_len : ∀ {ds : List D} {vs : List V}, RepL G p H ds vs → ds.length = vs.length
  | [], vs, q => by rw [(show vs = [] from q)]; rfl
  | d :: ds, vs, q => by
    obtain ⟨v, r, e, _, q2⟩ := q
    subst e
    rw [List.length_cons, List.length_cons, repL_len q2]
theorem repL_get : ∀ {ds : List D} {vs : List V} {i : Nat} {d : D}, RepL G p H ds vs → ds[i]? = some d → ∃ v, vs[i]? = some v ∧ Rep G p H d v
  | [], _, i, d, _, e => by simp at e
  | d :: ds, vs, 0, x, q, e => by
    obtain ⟨v, r, rfl, q1, _⟩ := q
    simp at e; subst e
    exact ⟨v, rfl, q1⟩
  | d :: ds, vs, i + 1, x, q, e => by
    obtain ⟨v, r, rfl, _, q2⟩ := q
    obtain ⟨u, h1, h2⟩ := repL_get (i := i) q2 (by simpa using e)
    exact ⟨u, by simpa using h1, h2⟩
theorem repL_get' : ∀ {ds : List D} {vs : List V} {i : Nat} {v : V}, RepL G p H ds vs → vs[i]? = some v → ∃ d, ds[i]? = some d ∧ Rep G p H d v := fun {ds vs i v} q e => by
  have hl := repL_len q
  obtain ⟨h1, _⟩ := List.getElem?_eq_some_iff.mp e
  have h2 : ds[i]? = some (ds[i]'(by omega)) := List.getElem?_eq_some_iff.mpr ⟨by omega, rfl⟩
  obtain ⟨u, h3, h4⟩ := repL_get q h2
  rw [e] at h3; cases h3
  exact ⟨_, h2, h4⟩
theorem repL_app : ∀ {ds es : List D} {vs us : List V}, RepL G p H ds vs → RepL G p H es us → RepL G p H (ds ++ es) (vs ++ us)
  | [], es, vs, us, q, q' => by rw [(show vs = [] from q)]; exact q'
  | d :: ds, es, vs, us, q, q' => by
    obtain ⟨v, r, rfl, q1, q2⟩ := q
    exact ⟨v, r ++ us, rfl, q1, repL_app q2 q'⟩

abbrev Loc := List (Option D)
/-- the slots -/
def EnvOk (G : Gt) (p : Fm) (H : Hp) (σ : St) (ρ : Loc) : Prop :=
  σ.length = ρ.length ∧ ∀ (i : Nat) (d : D), ρ[i]? = some (some d) → ∃ v, σ[i]? = some (some v) ∧ Rep G p H d v
theorem EnvOk.keep {σ : St} {ρ : Loc} (h : PenAt p H) (k : Keep p H H') (e : EnvOk G p H σ ρ) : EnvOk G p H' σ ρ :=
  ⟨e.1, fun i d q => let ⟨v, h1, h2⟩ := e.2 i d q; ⟨v, h1, rep_keep h k d v h2⟩⟩
theorem EnvOk.set {σ : St} {ρ : Loc} {i : Nat} {d : D} {v : V} (e : EnvOk G p H σ ρ) (q : Rep G p H d v) : EnvOk G p H (σ.set i (some v)) (ρ.set i (some d)) := by
  refine ⟨by simp [e.1], fun j x hx => ?_⟩
  rw [List.getElem?_set] at hx
  by_cases hij : i = j
  · subst hij
    simp only [if_true] at hx
    by_cases hl : i < ρ.length
    · rw [if_pos hl] at hx
      have hx' : d = x := by simpa using hx
      subst hx'
      exact ⟨v, by rw [List.getElem?_set]; simp [e.1, hl], q⟩
    · rw [if_neg hl] at hx; cases hx
  · rw [if_neg hij] at hx
    obtain ⟨u, h1, h2⟩ := e.2 j x hx
    exact ⟨u, by rw [List.getElem?_set, if_neg hij]; exact h1, h2⟩

/-- what is wanted of an outcome -/
def FinG {α β : Type} (G : Gt) (W : WX) (Rel : Fm → Hp → α → β → Prop) (p : Fm) (σ : St) (H : Hp) (Q : β → Hp → Prop) : Out α → Prop
  | .ok a s => ∀ b H', Keep p H H' → PenOk G p H' s → Rel p H' a b → Q b H'
  | .exc c ns xs s => ∀ dd H', Keep p H H' → PenOk G p H' s → ExcOk G p H' ns xs dd → W (.ref (G.cls c)) dd σ H'
  | .bad => False
theorem FinG.keep {α β : Type} {W : WX} {Rel : Fm → Hp → α → β → Prop} {σ : St} {Q : β → Hp → Prop} {o : Out α} (k : Keep p H H') (h : FinG G W Rel p σ H Q o) : FinG G W Rel p σ H' Q o := by
  cases o with
  | ok a s => exact fun b H2 k2 => h b H2 (k.trans k2)
  | exc c ns xs s => exact fun dd H2 k2 => h dd H2 (k.trans k2)
  | bad => exact h
/-- the reading t does what m says -/
def RunG {α β : Type} (G : Gt) (W : WX) (Rel : Fm → Hp → α → β → Prop) (t : St → Hp → (β → Hp → Prop) → Prop) (m : Loc → M α) : Prop :=
  ∀ (p : Fm) (σ : St) (H : Hp) (ρ : Loc) (s : Pen) (Q : β → Hp → Prop), EnvOk G p H σ ρ → PenOk G p H s → FinG G W Rel p σ H Q (m ρ s) → t σ H Q
abbrev RelE (G : Gt) : Fm → Hp → D → V → Prop := fun p H d v => Rep G p H d v
abbrev RelB : Fm → Hp → Bool → Bool → Prop := fun _ _ a b => b = a
abbrev RelA (G : Gt) : Fm → Hp → List D → List V → Prop := fun p H ds vs => RepL G p H ds vs
abbrev RunE (G : Gt) (W : WX) (t : TE) (m : Loc → M D) : Prop := RunG G W (RelE G) t m
abbrev RunT (G : Gt) (W : WX) (t : TT) (m : Loc → M Bool) : Prop := RunG G W RelB t m
abbrev RunA (G : Gt) (W : WX) (t : TA) (m : Loc → M (List D)) : Prop := RunG G W (RelA G) t m

/-- one reading behind another -/
theorem RunG.bind {α β γ δ : Type} {W : WX} {RA : Fm → Hp → α → β → Prop} {RC : Fm → Hp → γ → δ → Prop} {ta : St → Hp → (β → Hp → Prop) → Prop} {tb : β → St → Hp → (δ → Hp → Prop) → Prop} {f : Loc → M α} {g : Loc → α → M γ}
    (ha : RunG G W RA ta f)
    (hb : ∀ (p : Fm) (σ : St) (H : Hp) (ρ : Loc) (s : Pen) (a : α) (b : β) (Q : δ → Hp → Prop), EnvOk G p H σ ρ → PenOk G p H s → RA p H a b → FinG G W RC p σ H Q (g ρ a s) → tb b σ H Q) :
    RunG G W RC (fun σ H Q => ta σ H fun x H1 => tb x σ H1 Q) (fun ρ => mbind (f ρ) (g ρ)) := by
  intro p σ H ρ s Q e pk fin
  refine ha p σ H ρ s _ e pk ?_
  have fin : FinG G W RC p σ H Q (obind (f ρ s) (g ρ)) := fin
  cases h : f ρ s with
  | ok a s' =>
    rw [h] at fin
    exact fun b H1 k pk1 r => hb p σ H1 ρ s' a b Q (e.keep pk.at k) pk1 r (fin.keep k)
  | exc c ns xs s' =>
    rw [h] at fin
    exact fun dd H1 k pk1 x => fin dd H1 k pk1 x
  | bad =>
    rw [h] at fin
    exact fin
end
end Tw

set_option Elab.async false
set_option linter.all false
set_option maxRecDepth 100000
set_option maxHeartbeats 4000000
namespace Tw
open PySem L2
section
variable {K : PySem.W.Frag} {G : Gt} {W : WX} {X : Cx}

theorem FinG.step {α β γ δ : Type} {RA : Fm → Hp → α → β → Prop} {RC : Fm → Hp → γ → δ → Prop} {p : Fm} {σ : St} {H : Hp} {s : Pen} {Q : δ → Hp → Prop} {R : β → Hp → Prop} {f : M α} {g : α → M γ}
    (fin : FinG G W RC p σ H Q (mbind f g s))
    (hb : ∀ a s1 b H1, Keep p H H1 → PenOk G p H1 s1 → RA p H1 a b → FinG G W RC p σ H1 Q (g a s1) → R b H1) : FinG G W RA p σ H R (f s) := by
  have fin : FinG G W RC p σ H Q (obind (f s) g) := fin
  cases h : f s with
  | ok a s1 => rw [h] at fin; exact fun b H1 k pk r => hb a s1 b H1 k pk r (FinG.keep k fin)
  | exc c ns xs s1 => rw [h] at fin; exact fin
  | bad => rw [h] at fin; exact fin

structure DE (G : Gt) (X : Cx) (W : WX) (e : Expr) (t : TE) (m : Loc → M D) : Prop where
  pe : PE X e t
  run : RunG G W (RelE G) t m
structure DT (G : Gt) (X : Cx) (W : WX) (e : Expr) (t : TT) (m : Loc → M Bool) : Prop where
  pt : PT X e t
  run : RunG G W RelB t m
structure DW (G : Gt) (X : Cx) (W : WX) (e : Expr) (t : TT) (m : Loc → M Bool) : Prop where
  pw : PW X e t
  run : RunG G W RelB t m
structure DA (G : Gt) (X : Cx) (W : WX) (es : List Expr) (t : TA) (m : Loc → M (List D)) : Prop where
  pa : PA X es t
  run : RunG G W (RelA G) t m

/-! ### names and constants -/
def mvar (i : Nat) : Loc → M D := fun ρ => match ρ[i]? with
  | some (some d) => mret d
  | _ => mbad
theorem run_var {i : Nat} : RunG G W (RelE G) (tVar i) (mvar i) := by
  intro p σ H ρ s Q e pk fin
  unfold mvar at fin
  cases h : ρ[i]? with
  | none => rw [h] at fin; exact False.elim fin
  | some o =>
    cases o with
    | none => rw [h] at fin; exact False.elim fin
    | some d =>
      rw [h] at fin
      obtain ⟨v, h1, h2⟩ := e.2 i d h
      exact ⟨v, h1, fin v H Keep.refl pk h2⟩
theorem run_c {v : V} {d : D} (h : ∀ p H, Rep G p H d v) : RunG G W (RelE G) (tC v) (fun _ => mret d) := by
  intro p σ H ρ s Q e pk fin
  exact fin v H Keep.refl pk (h p H)
theorem de_var (i : Nat) {x : Str} {pos : Pos} (hN : X.N[i]? = some x := by rfl) (hv : Vis X.env.scope x := by first | exact Or.inl rfl | exact Or.inr (Or.inl rfl) | exact Or.inr (Or.inr rfl)) (hd : (x == ("__debug__" : Str)) = false := by decide)
    (hcd : (x == ("__classdict__" : Str)) = false := by decide) : DE G X W (.Name x pos) (tVar i) (mvar i) := ⟨pe_var hN hv hd hcd, run_var⟩
theorem de_int {i : Int} {j : Nat} {pos : Pos} : DE G X W (.Constant (.int i) j pos) (tC (.int i)) (fun _ => mret (.int i)) := ⟨pe_int, run_c fun _ _ => rfl⟩
theorem de_bl {b : Bool} {j : Nat} {pos : Pos} : DE G X W (.Constant (.bool b) j pos) (tC (.bl b)) (fun _ => mret (.bl b)) := ⟨pe_bl, run_c fun _ _ => rfl⟩
theorem de_non {j : Nat} {pos : Pos} : DE G X W (.Constant .none j pos) (tC .non) (fun _ => mret .non) := ⟨pe_non, run_c fun _ _ => rfl⟩
theorem de_str {x : Str} {j : Nat} {pos : Pos} : DE G X W (.Constant (.str x) j pos) (tC (.str x)) (fun _ => mret (.str x)) := ⟨pe_str, run_c fun _ _ => rfl⟩
/-- a built-in class by name -/
theorem de_ty {x : Str} {n : String} {pos : Pos} (hg : Gl X x) (hm : X.mg x = none) (hv : bootBuiltins x = some (.type n)) (hn : x ≠ "__name__" := by decide) (hd : (x == ("__debug__" : Str)) = false := by decide) :
    DE G X W (.Name x pos) (tC (.ty n)) (fun _ => mret (.ty n)) := ⟨pe_bltn hg hm hv rfl hn hd, run_c fun _ _ => rfl⟩
/-- an own class by name -/
theorem de_cls {x : Str} {n : Nat} {pos : Pos} (hg : Gl X x) (hm : X.mg x = some (.ref (G.cls n))) (hd : (x == ("__debug__" : Str)) = false := by decide) :
    DE G X W (.Name x pos) (tC (.ref (G.cls n))) (fun _ => mret (.cls n)) := ⟨pe_glob hg hm rfl hd, run_c fun _ _ => rfl⟩
/-- a module's whole number by name -/
theorem de_gint {x : Str} {i : Int} {t : Tok} {pos : Pos} (hg : Gl X x) (hm : X.mg x = some (.int i t)) (hd : (x == ("__debug__" : Str)) = false := by decide) :
    DE G X W (.Name x pos) (tC (.int i)) (fun _ => mret (.int i)) := ⟨pe_glob hg hm ⟨t, rfl⟩ hd, run_c fun _ _ => rfl⟩

/-! ### operators -/
def Prim2 (G : Gt) (r : R2) (f : D → D → M D) : Prop :=
  ∀ (W : WX) (p : Fm) (σ : St) (H : Hp) (s : Pen) (x y : D) (vx vy : V) (Q : VK), PenOk G p H s → Rep G p H x vx → Rep G p H y vy → FinG G W (RelE G) p σ H Q (f x y s) → r vx vy H Q
def Prim1 (G : Gt) (r : V → Hp → VK → Prop) (f : D → M D) : Prop :=
  ∀ (W : WX) (p : Fm) (σ : St) (H : Hp) (s : Pen) (x : D) (vx : V) (Q : VK), PenOk G p H s → Rep G p H x vx → FinG G W (RelE G) p σ H Q (f x s) → r vx H Q
def PrimL (G : Gt) (r : List V → Hp → VK → Prop) (f : List D → M D) : Prop :=
  ∀ (W : WX) (p : Fm) (σ : St) (H : Hp) (s : Pen) (xs : List D) (vs : List V) (Q : VK), PenOk G p H s → RepL G p H xs vs → FinG G W (RelE G) p σ H Q (f xs s) → r vs H Q
variable {a b c : Expr} {ta tb tc te : TE} {fa fb fc fe : Loc → M D} {r : R2} {f : D → D → M D} {pos : Pos}
theorem run_op (hp : Prim2 G r f) (ha : RunG G W (RelE G) ta fa) (hb : RunG G W (RelE G) tb fb) : RunG G W (RelE G) (tOp r ta tb) (fun ρ => mbind (fa ρ) fun x => mbind (fb ρ) fun y => f x y) := by
  intro p σ H ρ s Q e pk fin
  exact ha p σ H ρ s _ e pk (fin.step fun x s1 vx H1 k1 pk1 rx fin1 => hb p σ H1 ρ s1 _ (e.keep pk.at k1) pk1 (fin1.step fun y s2 vy H2 k2 pk2 ry fin2 =>
    hp W p σ H2 s2 x y vx vy Q pk2 (rep_keep pk1.at k2 x vx rx) ry fin2))
theorem de_op {op : Operator} (ho : OpR X (binaryOp op) r) (hp : Prim2 G r f) (ha : DE G X W a ta fa) (hb : DE G X W b tb fb) : DE G X W (.BinOp a op b pos) (tOp r ta tb) (fun ρ => mbind (fa ρ) fun x => mbind (fb ρ) fun y => f x y) :=
  ⟨pe_op ho ha.pe hb.pe, run_op hp ha.run hb.run⟩
theorem de_cmp {op : CmpOp} (ho : OpR X (compareOp op) r) (hp : Prim2 G r f) (ha : DE G X W a ta fa) (hb : DE G X W b tb fb) (hm : behindInMarks op b = false := by first | exact nomark _ | rfl) : DE G X W (.Compare a [op] [b] pos) (tOp r ta tb) (fun ρ => mbind (fa ρ) fun x => mbind (fb ρ) fun y => f x y) :=
  ⟨pe_cmpR ho ha.pe hb.pe hm, run_op hp ha.run hb.run⟩
theorem run_un {r : V → Hp → VK → Prop} {f : D → M D} (hp : Prim1 G r f) (ha : RunG G W (RelE G) ta fa) : RunG G W (RelE G) (tUn r ta) (fun ρ => mbind (fa ρ) f) := by
  intro p σ H ρ s Q e pk fin
  exact ha p σ H ρ s _ e pk (fin.step fun x s1 vx H1 k1 pk1 rx fin1 => hp W p σ H1 s1 x vx Q pk1 rx fin1)
theorem de_un {op : UnaryOp} {r : V → Hp → VK → Prop} {f : D → M D} (ho : UnR X (unaryOp op) r) (hp : Prim1 G r f) (ha : DE G X W a ta fa) : DE G X W (.UnaryOp op a pos) (tUn r ta) (fun ρ => mbind (fa ρ) f) := ⟨pe_un ho ha.pe, run_un hp ha.run⟩
/-- of two readings for one operation -/
theorem Prim2.or {r r' : R2} {f f' : D → D → M D} {f2 : D → D → M D} (h : Prim2 G r f) (h' : Prim2 G r' f') (hf : ∀ x y, f2 x y = f x y ∨ f2 x y = f' x y) : Prim2 G (fun x y H Q => r x y H Q ∨ r' x y H Q) f2 := by
  intro W p σ H s x y vx vy Q pk rx ry fin
  rcases hf x y with e | e
  · rw [e] at fin; exact .inl (h W p σ H s x y vx vy Q pk rx ry fin)
  · rw [e] at fin; exact .inr (h' W p σ H s x y vx vy Q pk rx ry fin)
theorem PrimL.or {r r' : List V → Hp → VK → Prop} {f f' f2 : List D → M D} (h : PrimL G r f) (h' : PrimL G r' f') (hf : ∀ x, f2 x = f x ∨ f2 x = f' x) : PrimL G (fun x H Q => r x H Q ∨ r' x H Q) f2 := by
  intro W p σ H s x vx Q pk rx fin
  rcases hf x with e | e
  · rw [e] at fin; exact .inl (h W p σ H s x vx Q pk rx fin)
  · rw [e] at fin; exact .inr (h' W p σ H s x vx Q pk rx fin)

def int2 (g : Int → Int → D) : D → D → M D := fun x y => match x, y with
  | .int i, .int j => mret (g i j)
  | _, _ => mbad
def int2c (c : Int → Int → Bool) (g : Int → Int → D) : D → D → M D := fun x y => match x, y with
  | .int i, .int j => if c i j = true then mret (g i j) else mbad
  | _, _ => mbad
theorem prim_I0 {g : Int → Int → D} {gv : Int → Int → V} (hg : ∀ p H i j, Rep G p H (g i j) (gv i j)) : Prim2 G (rI0 gv) (int2 g) := by
  intro W p σ H s x y vx vy Q pk rx ry fin
  unfold int2 at fin
  split at fin
  · exact ⟨_, _, rx, ry, fin _ H Keep.refl pk (hg ..)⟩
  · exact fin.elim
theorem prim_I {C : Int → Int → Prop} {c : Int → Int → Bool} {g : Int → Int → D} {gv : Int → Int → V} (hc : ∀ i j, c i j = true → C i j) (hg : ∀ p H i j, Rep G p H (g i j) (gv i j)) : Prim2 G (rI C gv) (int2c c g) := by
  intro W p σ H s x y vx vy Q pk rx ry fin
  unfold int2c at fin
  split at fin
  · split at fin
    · rename_i h
      exact ⟨_, _, rx, ry, hc _ _ h, fin _ H Keep.refl pk (hg ..)⟩
    · exact fin.elim
  · exact fin.elim
def addI : D → D → M D := int2 fun i j => .int (i + j)
def subI : D → D → M D := int2 fun i j => .int (i - j)
def mulOk (i j : Int) : Bool := decide (j.natAbs < 2 ^ 64) || (decide (i.natAbs < 2 ^ 64) || decide (i.natAbs.log2 + j.natAbs.log2 < 1000000))
def CMulX (i j : Int) : Prop := CMul i j ∨ CMulW i j
theorem op_mulX {X : Cx} : OpR X (binaryOp .Mult) (rI CMulX fun i j => .int (i * j)) := opI fun _ _ _ _ _ _ _ hc q => PyProof.Rows.mul_int q (hc.elim CMul.ok CMulW.ok)
def mulI : D → D → M D := int2c mulOk fun i j => .int (i * j)
def divOk (_ j : Int) : Bool := decide (0 < j ∧ j.natAbs.log2 < 9000)
def fdivI : D → D → M D := int2c divOk fun i j => .int (i / j)
def modI : D → D → M D := int2c (fun _ j => decide (0 < j)) fun i j => .int (i % j)
def powI : D → D → M D := int2c (fun i j => decide (0 ≤ j ∧ j ≤ 1000000 ∧ i.natAbs < 2 ^ 64)) fun i j => .int (i ^ j.toNat)
theorem prim_add : Prim2 G (rI0 fun i j => .int (i + j)) addI := prim_I0 fun _ _ _ _ => rfl
theorem prim_sub : Prim2 G (rI0 fun i j => .int (i - j)) subI := prim_I0 fun _ _ _ _ => rfl
theorem mulOk_of {i j : Int} (h : mulOk i j = true) : CMulX i j := by
  unfold mulOk at h
  rw [Bool.or_eq_true, Bool.or_eq_true] at h
  rcases h with h | h | h
  · have := of_decide_eq_true h
    exact .inl (.inr ⟨by omega, by omega⟩)
  · have := of_decide_eq_true h
    exact .inl (.inl ⟨by omega, by omega⟩)
  · exact .inr (of_decide_eq_true (p := i.natAbs.log2 + j.natAbs.log2 < 1000000) h)
theorem prim_mul : Prim2 G (rI CMulX fun i j => .int (i * j)) mulI := prim_I (fun i j h => mulOk_of h) fun _ _ _ _ => rfl
theorem prim_fdiv : Prim2 G (rI CDivW fun i j => .int (i / j)) fdivI := prim_I (fun i j h => of_decide_eq_true (p := 0 < j ∧ j.natAbs.log2 < 9000) h) fun _ _ _ _ => rfl
theorem prim_mod : Prim2 G (rI (fun _ j => 0 < j) fun i j => .int (i % j)) modI := prim_I (fun _ _ h => of_decide_eq_true h) fun _ _ _ _ => rfl
theorem prim_pow : Prim2 G (rI CPow fun i j => .int (i ^ j.toNat)) powI := prim_I (fun i j h => of_decide_eq_true (p := 0 ≤ j ∧ j ≤ 1000000 ∧ i.natAbs < 2 ^ 64) h) fun _ _ _ _ => rfl
def negI : D → M D := fun x => match x with
  | .int i => mret (.int (-i))
  | _ => mbad
theorem prim_neg : Prim1 G (rU fun i => .int (-i)) negI := by
  intro W p σ H s x vx Q pk rx fin
  unfold negI at fin
  split at fin
  · exact ⟨_, rx, fin _ H Keep.refl pk rfl⟩
  · exact fin.elim
/-- two lists -/
def catL : D → D → M D := fun x y => match x, y with
  | .lst xs, .lst ys => if decide (xs.length + ys.length ≤ 100000) = true then mret (.lst (xs ++ ys)) else mbad
  | _, _ => mbad
theorem prim_catL : Prim2 G rCat catL := by
  intro W p σ H s x y vx vy Q pk rx ry fin
  unfold catL at fin
  split at fin
  · rename_i xs ys
    split at fin
    · rename_i h
      obtain ⟨a, vs, rfl, h0, h1, q1⟩ := rx
      obtain ⟨b, us, rfl, h0', h2, q2⟩ := ry
      have hl : vs.length + us.length ≤ sizeLine := by
        rw [← repL_len q1, ← repL_len q2]
        exact Nat.le_trans (of_decide_eq_true h) (by decide)
      refine ⟨a, b, vs, us, rfl, rfl, h1, h2, hl, fun l hn => ?_⟩
      have k : Keep p H (upd H l (.lst (vs ++ us))) := Keep.new hn
      exact fin _ _ k (pk.new hn) ⟨l, _, rfl, pk.free hn, upd_same, repL_app (repL_keep pk.at k _ _ q1) (repL_keep pk.at k _ _ q2)⟩
    · exact fin.elim
  · exact fin.elim
/-- + of whole numbers, or of lists -/
def addIL : D → D → M D := fun x y => match x with
  | .lst _ => catL x y
  | _ => addI x y
theorem prim_addIL : Prim2 G (fun x y H Q => (rI0 fun i j => V.int (i + j)) x y H Q ∨ rCat x y H Q) addIL := Prim2.or prim_add prim_catL fun x y => by
  unfold addIL
  cases x <;> first | exact .inr rfl | exact .inl rfl

/-! ### comparisons -/
def ltI : D → D → M D := int2 fun i j => .bl (decide (i < j))
def leI : D → D → M D := int2 fun i j => .bl (decide (i ≤ j))
def gtI : D → D → M D := int2 fun i j => .bl (decide (j < i))
def geI : D → D → M D := int2 fun i j => .bl (decide (j ≤ i))
theorem prim_lt : Prim2 G (rI0 fun i j => .bl (decide (i < j))) ltI := prim_I0 fun _ _ _ _ => rfl
theorem prim_le : Prim2 G (rI0 fun i j => .bl (decide (i ≤ j))) leI := prim_I0 fun _ _ _ _ => rfl
theorem prim_gt : Prim2 G (rI0 fun i j => .bl (decide (j < i))) gtI := prim_I0 fun _ _ _ _ => rfl
theorem prim_ge : Prim2 G (rI0 fun i j => .bl (decide (j ≤ i))) geI := prim_I0 fun _ _ _ _ => rfl

mutual
def toP : D → Option PyData
  | .non => some .none
  | .bl b => some (.bool b)
  | .int i => some (.int i)
  | .str x => some (.str x)
  | .lst xs => (toPL xs).map .list
  | .tup xs => (toPL xs).map .tuple
  | _ => none
def toPL : List D → Option (List PyData)
  | [] => some []
  | d :: ds => match toP d, toPL ds with
    | some x, some xs => some (x :: xs)
    | _, _ => none
end
def eqDat : D → D → M D := fun x y => match toP x, toP y with
  | some a, some b => if (SeqAt.shaped a && SeqAt.shaped b) = true then mret (.bl (PyData.eqv a b)) else mbad
  | _, _ => mbad
def neDat : D → D → M D := fun x y => match toP x, toP y with
  | some a, some b => if (SeqAt.shaped a && SeqAt.shaped b) = true then mret (.bl (!PyData.eqv a b)) else mbad
  | _, _ => mbad

mutual
theorem dp_of {p : Fm} {H : Hp} : ∀ (d : D) (v : V) (x : PyData), Rep G p H d v → toP d = some x → Dp K H v x
  | .non, v, x, q, e => by obtain rfl : v = .non := q; cases e; exact .non
  | .bl b, v, x, q, e => by obtain rfl : v = .bl b := q; cases e; exact .bl b
  | .int i, v, x, q, e => by obtain rfl : v = .int i := q; cases e; exact .int i
  | .str y, v, x, q, e => by obtain rfl : v = .str y := q; cases e; exact .str y
  | .lst ds, v, x, q, e => by
    obtain ⟨a, vs, rfl, h0, h1, q1⟩ := q
    unfold toP at e
    cases h : toPL ds with
    | none => rw [h] at e; cases e
    | some xs => rw [h] at e; cases e; exact .lst (SqL.of h1) (dpAll_of ds vs xs q1 h)
  | .tup ds, v, x, q, e => by
    obtain ⟨a, vs, rfl, h0, h1, q1⟩ := q
    unfold toP at e
    cases h : toPL ds with
    | none => rw [h] at e; cases e
    | some xs => rw [h] at e; cases e; exact .tup (SqT.of h1) (dpAll_of ds vs xs q1 h)
  | .ty _, _, _, _, e => by cases e
  | .cls _, _, _, _, e => by cases e
  | .ins _ _ _, _, _, _, e => by cases e
  | .err _ _ _, _, _, _, e => by cases e
  | .pen, _, _, _, e => by cases e
  | .bag, _, _, _, e => by cases e
  | .self, _, _, _, e => by cases e
theorem dpAll_of {p : Fm} {H : Hp} : ∀ (ds : List D) (vs : List V) (xs : List PyData), RepL G p H ds vs → toPL ds = some xs → DpAll K H vs xs
  | [], vs, xs, q, e => by
    obtain rfl : vs = [] := q
    cases e
    exact .nil
  | d :: ds, vs, xs, q, e => by
    obtain ⟨v, r, rfl, q1, q2⟩ := q
    unfold toPL at e
    cases h1 : toP d with
    | none => rw [h1] at e; cases e
    | some y =>
      cases h2 : toPL ds with
      | none => rw [h1, h2] at e; cases e
      | some ys => rw [h1, h2] at e; cases e; exact .cons (dp_of d v y q1 h1) (dpAll_of ds r ys q2 h2)
end
theorem prim_eqDat : Prim2 G (rEqD K) eqDat := by
  intro W p σ H s x y vx vy Q pk rx ry fin
  unfold eqDat at fin
  cases h1 : toP x with
  | none => rw [h1] at fin; exact False.elim fin
  | some a =>
    cases h2 : toP y with
    | none => rw [h1, h2] at fin; exact False.elim fin
    | some b =>
      rw [h1, h2] at fin
      dsimp only at fin
      by_cases h3 : (SeqAt.shaped a && SeqAt.shaped b) = true
      · rw [if_pos h3] at fin
        rw [Bool.and_eq_true] at h3
        exact ⟨a, b, dp_of x vx a rx h1, dp_of y vy b ry h2, h3.1, h3.2, fin _ H Keep.refl pk rfl⟩
      · rw [if_neg h3] at fin; exact False.elim fin
theorem prim_neDat : Prim2 G (rNeD K) neDat := by
  intro W p σ H s x y vx vy Q pk rx ry fin
  unfold neDat at fin
  cases h1 : toP x with
  | none => rw [h1] at fin; exact False.elim fin
  | some a =>
    cases h2 : toP y with
    | none => rw [h1, h2] at fin; exact False.elim fin
    | some b =>
      rw [h1, h2] at fin
      dsimp only at fin
      by_cases h3 : (SeqAt.shaped a && SeqAt.shaped b) = true
      · rw [if_pos h3] at fin
        rw [Bool.and_eq_true] at h3
        exact ⟨a, b, dp_of x vx a rx h1, dp_of y vy b ry h2, h3.1, h3.2, fin _ H Keep.refl pk rfl⟩
      · rw [if_neg h3] at fin; exact False.elim fin
/-- ==: whole numbers at once, all other data by their form -/
def eqA : D → D → M D := fun x y => match x, y with
  | .int i, .int j => mret (.bl (decide (i = j)))
  | .bl i, .bl j => mret (.bl (decide (i = j)))
  | .str i, .str j => mret (.bl (decide (i = j)))
  | _, _ => eqDat x y
def neA : D → D → M D := fun x y => match x, y with
  | .int i, .int j => mret (.bl (!decide (i = j)))
  | .bl i, .bl j => mret (.bl (!decide (i = j)))
  | .str i, .str j => mret (.bl (!decide (i = j)))
  | _, _ => neDat x y
theorem dec_vint {i j : Int} : decide (V.int i = V.int j) = decide (i = j) := by
  by_cases h : i = j
  · subst h; simp
  · rw [decide_eq_false h, decide_eq_false fun z => h (V.int.inj z)]
theorem dec_vbl {i j : Bool} : decide (V.bl i = V.bl j) = decide (i = j) := by
  by_cases h : i = j
  · subst h; simp
  · rw [decide_eq_false h, decide_eq_false fun z => h (V.bl.inj z)]
theorem dec_vstr {i j : Str} : decide (V.str i = V.str j) = decide (i = j) := by
  by_cases h : i = j
  · subst h; simp
  · rw [decide_eq_false h, decide_eq_false fun z => h (V.str.inj z)]
theorem prim_eq : Prim2 G (fun x y H Q => rEq x y H Q ∨ rEqD K x y H Q) eqA := by
  intro W p σ H s x y vx vy Q pk rx ry fin
  unfold eqA at fin
  split at fin
  · rename_i i j
    obtain rfl : vx = .int i := rx
    obtain rfl : vy = .int j := ry
    exact .inl ⟨rfl, by rw [dec_vint]; exact fin _ H Keep.refl pk rfl⟩
  · rename_i i j
    obtain rfl : vx = .bl i := rx
    obtain rfl : vy = .bl j := ry
    exact .inl ⟨rfl, by rw [dec_vbl]; exact fin _ H Keep.refl pk rfl⟩
  · rename_i i j
    obtain rfl : vx = .str i := rx
    obtain rfl : vy = .str j := ry
    exact .inl ⟨rfl, by rw [dec_vstr]; exact fin _ H Keep.refl pk rfl⟩
  · exact .inr (prim_eqDat W p σ H s x y vx vy Q pk rx ry fin)
theorem prim_ne : Prim2 G (fun x y H Q => rNe x y H Q ∨ rNeD K x y H Q) neA := by
  intro W p σ H s x y vx vy Q pk rx ry fin
  unfold neA at fin
  split at fin
  · rename_i i j
    obtain rfl : vx = .int i := rx
    obtain rfl : vy = .int j := ry
    exact .inl ⟨rfl, by rw [dec_vint]; exact fin _ H Keep.refl pk rfl⟩
  · rename_i i j
    obtain rfl : vx = .bl i := rx
    obtain rfl : vy = .bl j := ry
    exact .inl ⟨rfl, by rw [dec_vbl]; exact fin _ H Keep.refl pk rfl⟩
  · rename_i i j
    obtain rfl : vx = .str i := rx
    obtain rfl : vy = .str j := ry
    exact .inl ⟨rfl, by rw [dec_vstr]; exact fin _ H Keep.refl pk rfl⟩
  · exact .inr (prim_neDat W p σ H s x y vx vy Q pk rx ry fin)
theorem op_eqA (hK : X.K = K) (hu : X.A.units + 64 < cLine) : OpR X (compareOp .Eq) (fun x y H Q => rEq x y H Q ∨ rEqD K x y H Q) := by
  subst hK; exact op_eq.or (op_eqD hu)
theorem op_neA (hK : X.K = K) (hu : X.A.units + 64 < cLine) : OpR X (compareOp .NotEq) (fun x y H Q => rNe x y H Q ∨ rNeD K x y H Q) := by
  subst hK; exact op_ne.or (op_neD hu)
/-- x is None; x is True (bools alone) -/
def isNo : D → D → M D := fun x y => match y with
  | .non => (match x with
    | .non => mret (.bl true)
    | _ => mret (.bl false))
  | _ => mbad
def notNo : D → D → M D := fun x y => match y with
  | .non => (match x with
    | .non => mret (.bl false)
    | _ => mret (.bl true))
  | _ => mbad
def isBo : D → D → M D := fun x y => match x, y with
  | .bl i, .bl j => mret (.bl (decide (i = j)))
  | _, _ => mbad
theorem rep_non {p : Fm} {H : Hp} {x : D} {v : V} (h : Rep G p H x v) (hx : x ≠ .non) : v ≠ .non := by
  intro e
  subst e
  cases x <;> first
    | exact hx rfl
    | exact nomatch (show V.non = _ from h)
    | (obtain ⟨_, _, _, z⟩ := h; exact V.noConfusion z)
    | (obtain ⟨_, _, z, _⟩ := h; exact nomatch z)
    | (obtain ⟨_, _, _, z, _⟩ := h; exact nomatch z)
    | (obtain ⟨_, _, _, _, z, _⟩ := h; exact nomatch z)
    | (obtain ⟨_, _, z⟩ := h; exact nomatch z)
    | (obtain ⟨_, _, _, z⟩ := h; exact nomatch z)
theorem prim_isNo : Prim2 G (fun x y H Q => y = .non ∧ Q (.bl (decide (x = .non))) H) isNo := by
  intro W p σ H s x y vx vy Q pk rx ry fin
  unfold isNo at fin
  split at fin
  · refine ⟨ry, ?_⟩
    split at fin
    · obtain rfl : vx = .non := rx
      exact fin _ H Keep.refl pk rfl
    · rename_i h
      rw [decide_eq_false (rep_non rx h)]
      exact fin _ H Keep.refl pk rfl
  · exact False.elim fin
theorem prim_notNo : Prim2 G (fun x y H Q => y = .non ∧ Q (.bl (!decide (x = .non))) H) notNo := by
  intro W p σ H s x y vx vy Q pk rx ry fin
  unfold notNo at fin
  split at fin
  · refine ⟨ry, ?_⟩
    split at fin
    · obtain rfl : vx = .non := rx
      exact fin _ H Keep.refl pk rfl
    · rename_i h
      rw [decide_eq_false (rep_non rx h)]
      exact fin _ H Keep.refl pk rfl
  · exact False.elim fin
theorem prim_isBo : Prim2 G rIsB isBo := by
  intro W p σ H s x y vx vy Q pk rx ry fin
  unfold isBo at fin
  split at fin
  · exact ⟨_, _, rx, ry, fin _ H Keep.refl pk rfl⟩
  · exact False.elim fin

/-! ### tests -/
def asB (d : D) : M Bool := match d with
  | .bl b => mret b
  | _ => mbad
theorem run_tB (h : RunG G W (RelE G) te fe) : RunG G W RelB (tB te) (fun ρ => mbind (fe ρ) asB) := by
  intro p σ H ρ s Q e pk fin
  refine h p σ H ρ s _ e pk (fin.step fun x s1 vx H1 k1 pk1 rx fin1 => ?_)
  unfold asB at fin1
  split at fin1
  · exact ⟨_, rx, fin1 _ H1 Keep.refl pk1 rfl⟩
  · exact False.elim fin1
theorem dt_val {e : Expr} (h : DE G X W e te fe) (he : ∀ whole, isTrue e X.env whole = (do let v ← whole; standAt e.pos; holding [v] (truthy v)) := by intro _; rfl) : DT G X W e (tB te) (fun ρ => mbind (fe ρ) asB) :=
  ⟨pt_val h.pe he, run_tB h.run⟩
theorem dt_cmp {op : CmpOp} (ho : OpR X (compareOp op) r) (hp : Prim2 G r f) (ha : DE G X W a ta fa) (hb : DE G X W b tb fb) (hm : behindInMarks op b = false := by first | exact nomark _ | rfl) :
    DT G X W (.Compare a [op] [b] pos) (tTest (tOp r ta tb)) (fun ρ => mbind (mbind (fa ρ) fun x => mbind (fb ρ) fun y => f x y) asB) :=
  ⟨pt_cmpR ho ha.pe hb.pe hm, run_tB (te := tOp r ta tb) (run_op hp ha.run hb.run)⟩
variable {A1 A2 : TT} {f1 f2 : Loc → M Bool} {rest : List Expr}
theorem dw_and1 (ha : DT G X W a A1 f1) : DW G X W (.BoolOp .And [a] pos) A1 f1 := ⟨pw_and1 ha.pt, ha.run⟩
theorem dw_or1 (ha : DT G X W a A1 f1) : DW G X W (.BoolOp .Or [a] pos) A1 f1 := ⟨pw_or1 ha.pt, ha.run⟩
theorem run_and (h1 : RunG G W RelB A1 f1) (h2 : RunG G W RelB A2 f2) : RunG G W RelB (tAnd A1 A2) (fun ρ => mbind (f1 ρ) fun c => if c = true then f2 ρ else mret false) := by
  intro p σ H ρ s Q e pk fin
  refine h1 p σ H ρ s _ e pk (fin.step fun x s1 b H1 k1 pk1 rx fin1 => ?_)
  obtain rfl : b = x := rx
  cases b with
  | true =>
    show (if true = true then A2 σ H1 Q else Q false H1)
    rw [if_pos rfl] at fin1 ⊢
    exact h2 p σ H1 ρ s1 Q (e.keep pk.at k1) pk1 fin1
  | false =>
    show (if false = true then A2 σ H1 Q else Q false H1)
    rw [if_neg Bool.false_ne_true] at fin1 ⊢
    exact fin1 _ H1 Keep.refl pk1 rfl
theorem run_or (h1 : RunG G W RelB A1 f1) (h2 : RunG G W RelB A2 f2) : RunG G W RelB (tOr A1 A2) (fun ρ => mbind (f1 ρ) fun c => if c = true then mret true else f2 ρ) := by
  intro p σ H ρ s Q e pk fin
  refine h1 p σ H ρ s _ e pk (fin.step fun x s1 b H1 k1 pk1 rx fin1 => ?_)
  obtain rfl : b = x := rx
  cases b with
  | true =>
    show (if true = true then Q true H1 else A2 σ H1 Q)
    rw [if_pos rfl] at fin1 ⊢
    exact fin1 _ H1 Keep.refl pk1 rfl
  | false =>
    show (if false = true then Q true H1 else A2 σ H1 Q)
    rw [if_neg Bool.false_ne_true] at fin1 ⊢
    exact h2 p σ H1 ρ s1 Q (e.keep pk.at k1) pk1 fin1
theorem dw_and (ha : DT G X W a A1 f1) (hb : DW G X W (.BoolOp .And (b :: rest) pos) A2 f2) : DW G X W (.BoolOp .And (a :: b :: rest) pos) (tAnd A1 A2) (fun ρ => mbind (f1 ρ) fun c => if c = true then f2 ρ else mret false) := ⟨pw_and ha.pt hb.pw, run_and ha.run hb.run⟩
theorem dw_or (ha : DT G X W a A1 f1) (hb : DW G X W (.BoolOp .Or (b :: rest) pos) A2 f2) : DW G X W (.BoolOp .Or (a :: b :: rest) pos) (tOr A1 A2) (fun ρ => mbind (f1 ρ) fun c => if c = true then mret true else f2 ρ) := ⟨pw_or ha.pt hb.pw, run_or ha.run hb.run⟩
theorem dt_w {e : Expr} (h : DW G X W e A1 f1) : DT G X W e A1 f1 := ⟨h.pw.pt, h.run⟩
theorem dt_not (ha : DT G X W a A1 f1) : DT G X W (.UnaryOp .Not a pos) (tNot A1) (fun ρ => mbind (f1 ρ) fun c => mret (!c)) := by
  refine ⟨pt_not ha.pt, fun p σ H ρ s Q e pk fin => ?_⟩
  refine ha.run p σ H ρ s _ e pk (fin.step fun x s1 b H1 k1 pk1 rx fin1 => ?_)
  obtain rfl : b = x := rx
  exact fin1 _ H1 Keep.refl pk1 rfl
/-- and, or, not as values (of bools) -/
theorem de_one {op} (h : DE G X W a ta fa) : DE G X W (.BoolOp op [a] pos) ta fa := ⟨pe_one h.pe, h.run⟩
theorem de_and (ha : DE G X W a ta fa) (hb : DE G X W (.BoolOp .And (b :: rest) pos) tb fb) : DE G X W (.BoolOp .And (a :: b :: rest) pos) (tAndV ta tb) (fun ρ => mbind (mbind (fa ρ) asB) fun c => if c = true then fb ρ else mret (.bl false)) := by
  refine ⟨pe_and ha.pe hb.pe, fun p σ H ρ s Q e pk fin => ?_⟩
  refine (run_tB ha.run) p σ H ρ s (fun c H1 => if c = true then tb σ H1 Q else Q (.bl false) H1) e pk (fin.step fun x s1 b H1 k1 pk1 rx fin1 => ?_)
  obtain rfl : b = x := rx
  cases b with
  | true =>
    rw [if_pos rfl] at fin1 ⊢
    exact hb.run p σ H1 ρ s1 Q (e.keep pk.at k1) pk1 fin1
  | false =>
    rw [if_neg Bool.false_ne_true] at fin1 ⊢
    exact fin1 _ H1 Keep.refl pk1 rfl
theorem de_or (ha : DE G X W a ta fa) (hb : DE G X W (.BoolOp .Or (b :: rest) pos) tb fb) : DE G X W (.BoolOp .Or (a :: b :: rest) pos) (tOrV ta tb) (fun ρ => mbind (mbind (fa ρ) asB) fun c => if c = true then mret (.bl true) else fb ρ) := by
  refine ⟨pe_or ha.pe hb.pe, fun p σ H ρ s Q e pk fin => ?_⟩
  refine (run_tB ha.run) p σ H ρ s (fun c H1 => if c = true then Q (.bl true) H1 else tb σ H1 Q) e pk (fin.step fun x s1 b H1 k1 pk1 rx fin1 => ?_)
  obtain rfl : b = x := rx
  cases b with
  | true =>
    rw [if_pos rfl] at fin1 ⊢
    exact fin1 _ H1 Keep.refl pk1 rfl
  | false =>
    rw [if_neg Bool.false_ne_true] at fin1 ⊢
    exact hb.run p σ H1 ρ s1 Q (e.keep pk.at k1) pk1 fin1
theorem de_not (ha : DE G X W a ta fa) : DE G X W (.UnaryOp .Not a pos) (tNotV ta) (fun ρ => mbind (mbind (fa ρ) asB) fun c => mret (.bl (!c))) := by
  refine ⟨pe_not ha.pe, fun p σ H ρ s Q e pk fin => ?_⟩
  refine (run_tB ha.run) p σ H ρ s (fun c H1 => Q (.bl (!c)) H1) e pk (fin.step fun x s1 b H1 k1 pk1 rx fin1 => ?_)
  obtain rfl : b = x := rx
  exact fin1 _ H1 Keep.refl pk1 rfl
theorem de_ifExp (hc : DT G X W c A1 f1) (ha : DE G X W a ta fa) (hb : DE G X W b tb fb) : DE G X W (.IfExp c a b pos) (tIf A1 ta tb) (fun ρ => mbind (f1 ρ) fun c => if c = true then fa ρ else fb ρ) := by
  refine ⟨pe_ifExp hc.pt ha.pe hb.pe, fun p σ H ρ s Q e pk fin => ?_⟩
  refine hc.run p σ H ρ s _ e pk (fin.step fun x s1 b H1 k1 pk1 rx fin1 => ?_)
  obtain rfl : b = x := rx
  cases b with
  | true =>
    rw [if_pos rfl] at fin1 ⊢
    exact ha.run p σ H1 ρ s1 Q (e.keep pk.at k1) pk1 fin1
  | false =>
    rw [if_neg Bool.false_ne_true] at fin1 ⊢
    exact hb.run p σ H1 ρ s1 Q (e.keep pk.at k1) pk1 fin1
/-- a op b op' c -/
theorem run_chain {r' : R2} {f' : D → D → M D} (hp : Prim2 G r f) (hp' : Prim2 G r' f') (ha : RunG G W (RelE G) ta fa) (hb : RunG G W (RelE G) tb fb) (hc : RunG G W (RelE G) tc fc) :
    RunG G W (RelE G) (tChain r r' ta tb tc) (fun ρ => mbind (fa ρ) fun x => mbind (fb ρ) fun y => mbind (mbind (f x y) asB) fun k => if k = true then mbind (fc ρ) fun z => f' y z else mret (.bl false)) := by
  intro p σ H ρ s Q e pk fin
  refine ha p σ H ρ s _ e pk (fin.step fun x s1 vx H1 k1 pk1 rx fin1 => hb p σ H1 ρ s1 _ (e.keep pk.at k1) pk1 (fin1.step fun y s2 vy H2 k2 pk2 ry fin2 => ?_))
  have e2 := (e.keep pk.at k1).keep pk1.at k2
  refine hp W p σ H2 s2 x y vx vy _ pk2 (rep_keep pk1.at k2 x vx rx) ry ((fin2.step (RA := RelB) (R := fun k H3 => if k = true then tc σ H3 fun w' H4 => r' vy w' H4 Q else Q (.bl false) H3) fun k s3 b H3 k3 pk3 rk fin3 => ?_).step fun z s3 vz H3 k3 pk3 rz fin3 => ?_)
  · obtain rfl : b = k := rk
    cases b with
    | true =>
      rw [if_pos rfl] at fin3 ⊢
      exact hc p σ H3 ρ s3 _ (e2.keep pk2.at k3) pk3 (fin3.step fun z s4 vz H4 k4 pk4 rz fin4 => hp' W p σ H4 s4 y z vy vz Q pk4 (rep_keep pk2.at (k3.trans k4) y vy ry) rz fin4)
    | false =>
      rw [if_neg Bool.false_ne_true] at fin3 ⊢
      exact fin3 _ H3 Keep.refl pk3 rfl
  · unfold asB at fin3
    split at fin3
    · exact ⟨_, rz, fin3 _ H3 Keep.refl pk3 rfl⟩
    · exact False.elim fin3
theorem de_chain {op op' : CmpOp} {r' : R2} {f' : D → D → M D} (ho : OpR X (compareOp op) r) (ho' : OpR X (compareOp op') r') (hp : Prim2 G r f) (hp' : Prim2 G r' f') (ha : DE G X W a ta fa) (hb : DE G X W b tb fb) (hc : DE G X W c tc fc)
    (hm : lastMarks [op, op'] [b, c] = false := by with_unfolding_all rfl) : DE G X W (.Compare a [op, op'] [b, c] pos) (tChain r r' ta tb tc) (fun ρ => mbind (fa ρ) fun x => mbind (fb ρ) fun y => mbind (mbind (f x y) asB) fun k => if k = true then mbind (fc ρ) fun z => f' y z else mret (.bl false)) :=
  ⟨pe_chain ho ho' ha.pe hb.pe hc.pe hm, run_chain hp hp' ha.run hb.run hc.run⟩

/-! ### arguments, displays, items -/
variable {e : Expr} {es : List Expr} {tA : TA} {fA : Loc → M (List D)}
theorem da_nil : DA G X W [] tNil (fun _ => mret []) := ⟨pa_nil, fun _ _ H _ _ _ _ pk fin => fin [] H Keep.refl pk rfl⟩
theorem da_cons (ha : DE G X W e te fe) (hr : DA G X W es tA fA) (hs : starEach (e :: es) X.env = (false, eval e X.env) :: starEach es X.env := by rfl) : DA G X W (e :: es) (tCons te tA) (fun ρ => mbind (fe ρ) fun x => mbind (fA ρ) fun xs => mret (x :: xs)) := by
  refine ⟨pa_cons ha.pe hr.pa hs, fun p σ H ρ s Q e pk fin => ?_⟩
  exact ha.run p σ H ρ s _ e pk (fin.step fun x s1 vx H1 k1 pk1 rx fin1 => hr.run p σ H1 ρ s1 _ (e.keep pk.at k1) pk1 (fin1.step fun xs s2 vs H2 k2 pk2 rs fin2 =>
    fin2 _ H2 Keep.refl pk2 ⟨vx, vs, rfl, rep_keep pk1.at k2 x vx rx, rs⟩))
def tupD (xs : List D) : M D := if decide (xs.length ≤ 100000) = true then mret (.tup xs) else mbad
def lstD (xs : List D) : M D := if decide (xs.length ≤ 100000) = true then mret (.lst xs) else mbad
theorem de_tup {x1} (h : DA G X W es tA fA) : DE G X W (.Tuple es x1 pos) (tTup tA) (fun ρ => mbind (fA ρ) tupD) := by
  refine ⟨pe_tup h.pa, fun p σ H ρ s Q e pk fin => ?_⟩
  refine h.run p σ H ρ s _ e pk (fin.step fun xs s1 vs H1 k1 pk1 rs fin1 => ?_)
  unfold tupD at fin1
  split at fin1
  · rename_i hl
    refine ⟨by rw [← repL_len rs]; exact Nat.le_trans (of_decide_eq_true hl) (by decide), fun q hq => ?_⟩
    have k : Keep p H1 (upd H1 q (.tup vs)) := Keep.new hq
    exact fin1 _ _ k (pk1.new hq) ⟨q, vs, rfl, pk1.free hq, upd_same, repL_keep pk1.at k _ _ rs⟩
  · exact False.elim fin1
theorem de_lst (h : DA G X W es tA fA) : DE G X W (.List es pos) (tLst tA) (fun ρ => mbind (fA ρ) lstD) := by
  refine ⟨pe_lst h.pa, fun p σ H ρ s Q e pk fin => ?_⟩
  refine h.run p σ H ρ s _ e pk (fin.step fun xs s1 vs H1 k1 pk1 rs fin1 => ?_)
  unfold lstD at fin1
  split at fin1
  · rename_i hl
    refine ⟨by rw [← repL_len rs]; exact Nat.le_trans (of_decide_eq_true hl) (by decide), fun q hq => ?_⟩
    have k : Keep p H1 (upd H1 q (.lst vs)) := Keep.new hq
    exact fin1 _ _ k (pk1.new hq) ⟨q, vs, rfl, pk1.free hq, upd_same, repL_keep pk1.at k _ _ rs⟩
  · exact False.elim fin1
theorem atI_rep {p : Fm} {H : Hp} {ds : List D} {vs : List V} {i : Int} {d : D} (q : RepL G p H ds vs) (h : atI ds i = some d) : ∃ v, atI vs i = some v ∧ Rep G p H d v := by
  unfold atI at h ⊢
  rw [← repL_len q]
  cases e : ixN ds.length i with
  | none => rw [e] at h; cases h
  | some j =>
    rw [e] at h
    exact repL_get (i := j) q h
def itemD : D → D → M D := fun x y => match x, y with
  | .lst xs, .int i => (match atI xs i with
    | some d => mret d
    | none => mbad)
  | .tup xs, .int i => (match atI xs i with
    | some d => mret d
    | none => mbad)
  | _, _ => mbad
theorem prim_item : Prim2 G (fun x y H Q => rIxL K x y H Q ∨ rIxT K x y H Q) itemD := by
  intro W p σ H s x y vx vy Q pk rx ry fin
  unfold itemD at fin
  split at fin
  · rename_i xs i
    obtain ⟨a, vs, rfl, h0, h1, q1⟩ := rx
    obtain rfl : vy = .int i := ry
    cases h : atI xs i with
    | none => rw [h] at fin; exact False.elim fin
    | some d =>
      rw [h] at fin
      obtain ⟨v, h2, h3⟩ := atI_rep q1 h
      exact .inl ⟨a, vs, i, v, rfl, rfl, SqL.of h1, h2, fin v H Keep.refl pk h3⟩
  · rename_i xs i
    obtain ⟨a, vs, rfl, h0, h1, q1⟩ := rx
    obtain rfl : vy = .int i := ry
    cases h : atI xs i with
    | none => rw [h] at fin; exact False.elim fin
    | some d =>
      rw [h] at fin
      obtain ⟨v, h2, h3⟩ := atI_rep q1 h
      exact .inr ⟨a, vs, i, v, rfl, rfl, SqT.of h1, h2, fin v H Keep.refl pk h3⟩
  · exact False.elim fin
theorem ix_any (hK : X.K = K) : IxR X (fun x y H Q => rIxL K x y H Q ∨ rIxT K x y H Q) := by subst hK; exact ix_list.or ix_tup
theorem de_ix (hK : X.K = K) (ha : DE G X W a ta fa) (hb : DE G X W b tb fb) (hs : PlainIx b := by exact fun _ _ => rfl) : DE G X W (.Subscript a b pos) (tOp (fun x y H Q => rIxL K x y H Q ∨ rIxT K x y H Q) ta tb) (fun ρ => mbind (fa ρ) fun x => mbind (fb ρ) fun y => itemD x y) :=
  ⟨pe_ix (ix_any hK) ha.pe hb.pe hs, run_op prim_item ha.run hb.run⟩

/-! ### calls -/
/-- a def's promise by a function on trees -/
def spM (G : Gt) (n : Nat) (m : List D → M D) : Sp := fun vs H Q E => vs.length = n ∧ ∃ (p : Fm) (ds : List D) (s : Pen), RepL G p H ds vs ∧ PenOk G p H s ∧ FinG G (fun c d _ H' => E c d H') (RelE G) p [] H Q (m ds s)
theorem FinG.wx {α β : Type} {W W' : WX} {R : Fm → Hp → α → β → Prop} {p : Fm} {σ σ' : St} {H : Hp} {Q : β → Hp → Prop} {o : Out α} (h : FinG G W R p σ H Q o) (hw : ∀ c d H', W c d σ H' → W' c d σ' H') : FinG G W' R p σ' H Q o := by
  cases o with
  | ok a s => exact h
  | exc c ns xs s => exact fun dd H' k pk x => hw _ _ _ (h dd H' k pk x)
  | bad => exact h
theorem run_call {n : Nat} {m : List D → M D} (ha : RunG G W (RelA G) tA fA) (hl : ∀ ρ s ds s', fA ρ s = .ok ds s' → ds.length = n) : RunG G W (RelE G) (tCallS (spM G n m) (WE W) tA) (fun ρ => mbind (fA ρ) m) := by
  intro p σ H ρ s Q e pk fin
  show tA σ H fun vs H1 => spM G n m vs H1 Q (WE W σ)
  have fin' : FinG G W (RelE G) p σ H Q (obind (fA ρ s) m) := fin
  refine ha p σ H ρ s _ e pk ?_
  cases h : fA ρ s with
  | ok ds s1 =>
    rw [h] at fin'
    intro vs H1 k1 pk1 rs
    exact ⟨by rw [← repL_len rs]; exact hl ρ s ds s1 h, p, ds, s1, rs, pk1, (FinG.keep k1 fin').wx fun _ _ _ z => z⟩
  | exc c ns xs s1 => rw [h] at fin'; exact fin'
  | bad => rw [h] at fin'; exact fin'
/-- how many arguments are written -/
def LenA (fA : Loc → M (List D)) (n : Nat) : Prop := ∀ ρ s ds s', fA ρ s = .ok ds s' → ds.length = n
theorem len_nil : LenA (fun _ => mret []) 0 := fun _ _ _ _ h => by cases h; rfl
theorem len_cons {n : Nat} (h : LenA fA n) : LenA (fun ρ => mbind (fe ρ) fun x => mbind (fA ρ) fun xs => mret (x :: xs)) (n + 1) := by
  intro ρ s ds s' e
  have e : obind (fe ρ s) (fun x => mbind (fA ρ) fun xs => mret (x :: xs)) = .ok ds s' := e
  cases h1 : fe ρ s with
  | ok x s1 =>
    rw [h1] at e
    have e : obind (fA ρ s1) (fun xs => mret (x :: xs)) = .ok ds s' := e
    cases h2 : fA ρ s1 with
    | ok xs s2 =>
      rw [h2] at e
      cases e
      rw [List.length_cons, h ρ s1 xs _ h2]
    | exc c ns xs s2 => rw [h2] at e; cases e
    | bad => rw [h2] at e; cases e
  | exc c ns xs s2 => rw [h1] at e; cases e
  | bad => rw [h1] at e; cases e
theorem de_call {k n : Nat} {f : Addr} {fd : FuncData} {ps : List Str} {m : List D → M D} {x : Str} {p0 : Pos} (F : FnOk X.prog X.w X.K X.mg X.base (L2.CX X.prog X.w) k f fd ps (spM G n m)) (hr : Room k X.A) (tk : Takes X W) (hg : Gl X x) (hm : X.mg x = some (.ref f)) (hk : PySem.W.keepIn X.K (.ref f) = true) (hb : Binds X.K fd ps [])
    (ha : DA G X W (e :: es) tA fA) (hl : LenA fA n) (hdb : (x == ("__debug__" : Str)) = false := by decide) (he : starEach (e :: es) X.env = (false, eval e X.env) :: starEach es X.env := by rfl) (hpl : (backTo pos (starEach es X.env)).any (·.1) = false := by rfl) :
    DE G X W (.Call (.Name x p0) (e :: es) [] pos) (tCallS (spM G n m) (WE W) tA) (fun ρ => mbind (fA ρ) m) :=
  ⟨pe_callS F hr hg hm hk hb (fun σ => passAt tk σ) ha.pa hdb he hpl, run_call ha.run hl⟩
/-- a built-in function, a built-in class, a function of a module -/
theorem run_prim {rl : List V → Hp → VK → Prop} {g : List D → M D} (hp : PrimL G rl g) (ha : RunG G W (RelA G) tA fA) : RunG G W (RelE G) (tCB rl tA) (fun ρ => mbind (fA ρ) g) := by
  intro p σ H ρ s Q e pk fin
  exact ha p σ H ρ s _ e pk (fin.step fun xs s1 vs H1 k1 pk1 rs fin1 => hp W p σ H1 s1 xs vs Q pk1 rs fin1)
theorem de_callB {x : Str} {p0 : Pos} {id : String} {rl : List V → Hp → VK → Prop} {g : List D → M D} (hc : CallR X (.builtin id) rl) (hp : PrimL G rl g) (hg : Gl X x) (hm : X.mg x = none) (hv : bootBuiltins x = some (.builtin id)) (ha : DA G X W (e :: es) tA fA) (hn : x ≠ "__name__" := by decide) (hdb : (x == ("__debug__" : Str)) = false := by decide)
    (he : starEach (e :: es) X.env = (false, eval e X.env) :: starEach es X.env := by rfl) (hpl : (backTo pos (starEach es X.env)).any (·.1) = false := by rfl) : DE G X W (.Call (.Name x p0) (e :: es) [] pos) (tCB rl tA) (fun ρ => mbind (fA ρ) g) :=
  ⟨pe_callB hc hg hm hv ha.pa hn hdb he hpl, run_prim hp ha.run⟩
theorem de_callTy {x : Str} {p0 : Pos} {T : String} {rl : List V → Hp → VK → Prop} {g : List D → M D} (hc : CallR X (.type T) rl) (hp : PrimL G rl g) (hg : Gl X x) (hm : X.mg x = none) (hv : bootBuiltins x = some (.type T)) (ha : DA G X W (e :: es) tA fA) (hn : x ≠ "__name__" := by decide) (hdb : (x == ("__debug__" : Str)) = false := by decide)
    (he : starEach (e :: es) X.env = (false, eval e X.env) :: starEach es X.env := by rfl) (hpl : (backTo pos (starEach es X.env)).any (·.1) = false := by rfl) : DE G X W (.Call (.Name x p0) (e :: es) [] pos) (tCB rl tA) (fun ρ => mbind (fA ρ) g) :=
  ⟨pe_callTy hc hg hm hv ha.pa hn hdb he hpl, run_prim hp ha.run⟩
theorem de_callBfun {x : Str} {p0 : Pos} {id : String} {rl : List V → Hp → VK → Prop} {g : List D → M D} (hc : CallR X (.builtin id) rl) (hp : PrimL G rl g) (hg : Gl X x) (hm : X.mg x = some (.builtin id)) (ha : DA G X W (e :: es) tA fA) (hdb : (x == ("__debug__" : Str)) = false := by decide)
    (he : starEach (e :: es) X.env = (false, eval e X.env) :: starEach es X.env := by rfl) (hpl : (backTo pos (starEach es X.env)).any (·.1) = false := by rfl) : DE G X W (.Call (.Name x p0) (e :: es) [] pos) (tCB rl tA) (fun ρ => mbind (fA ρ) g) :=
  ⟨pe_callBfun hc hg hm ha.pa hdb he hpl, run_prim hp ha.run⟩
end
end Tw

set_option Elab.async false
set_option linter.all false
set_option maxRecDepth 100000
set_option maxHeartbeats 4000000
namespace Tw
open PySem L2
inductive OutS where
  | nx (ρ : Loc) (s : Pen)
  | ret (d : D) (s : Pen)
  | bk (ρ : Loc) (s : Pen)
  | ct (ρ : Loc) (s : Pen)
  | exc (c : Nat) (ns : List Str) (xs : List D) (ρ : Loc) (s : Pen)
  | bad
abbrev MS := Loc → Pen → OutS
section
variable {K : PySem.W.Frag} {G : Gt} {W : WX} {X : Cx}
def FinS (G : Gt) (W : WX) (p : Fm) (H : Hp) (Z : Ends) : OutS → Prop
  | .nx ρ s => ∀ σ' H', Keep p H H' → PenOk G p H' s → EnvOk G p H' σ' ρ → Z.nx σ' H'
  | .ret d s => ∀ v H', Keep p H H' → PenOk G p H' s → Rep G p H' d v → Z.rt v H'
  | .bk ρ s => ∀ σ' H', Keep p H H' → PenOk G p H' s → EnvOk G p H' σ' ρ → Z.bk σ' H'
  | .ct ρ s => ∀ σ' H', Keep p H H' → PenOk G p H' s → EnvOk G p H' σ' ρ → Z.ct σ' H'
  | .exc c ns xs ρ s => ∀ dd σ' H', Keep p H H' → PenOk G p H' s → EnvOk G p H' σ' ρ → ExcOk G p H' ns xs dd → W (.ref (G.cls c)) dd σ' H'
  | .bad => False
theorem FinS.keep {p : Fm} {H H' : Hp} {Z : Ends} {o : OutS} (k : Keep p H H') (h : FinS G W p H Z o) : FinS G W p H' Z o := by
  cases o with
  | nx ρ s => exact fun σ' H2 k2 => h σ' H2 (k.trans k2)
  | ret d s => exact fun v H2 k2 => h v H2 (k.trans k2)
  | bk ρ s => exact fun σ' H2 k2 => h σ' H2 (k.trans k2)
  | ct ρ s => exact fun σ' H2 k2 => h σ' H2 (k.trans k2)
  | exc c ns xs ρ s => exact fun dd σ' H2 k2 => h dd σ' H2 (k.trans k2)
  | bad => exact h
def RunS (G : Gt) (W : WX) (t : TS) (m : MS) : Prop := ∀ (p : Fm) (σ : St) (H : Hp) (ρ : Loc) (s : Pen) (Z : Ends), EnvOk G p H σ ρ → PenOk G p H s → FinS G W p H Z (m ρ s) → t Z σ H
structure DS (G : Gt) (X : Cx) (W : WX) (st : Stmt) (t : TS) (m : MS) : Prop where
  ps : PS X st t
  run : RunS G W t m
structure DSs (G : Gt) (X : Cx) (W : WX) (st : List Stmt) (t : TS) (m : MS) : Prop where
  ps : PSs X st t
  run : RunS G W t m
variable {st : Stmt} {sts : List Stmt} {t u tb : TS} {m m' mb : MS} {a b c e : Expr} {ta te : TE} {fa fe : Loc → M D} {pos : Pos} {es : List Expr} {tA : TA} {fA : Loc → M (List D)} {A1 : TT} {f1 : Loc → M Bool}

def sseq (m m' : MS) : MS := fun ρ s => match m ρ s with
  | .nx ρ' s' => m' ρ' s'
  | .ret d s' => .ret d s'
  | .bk ρ' s' => .bk ρ' s'
  | .ct ρ' s' => .ct ρ' s'
  | .exc c ns xs ρ' s' => .exc c ns xs ρ' s'
  | .bad => .bad
theorem run_seq (h1 : RunS G W t m) (h2 : RunS G W u m') : RunS G W (tSeq t u) (sseq m m') := by
  intro p σ H ρ s Z e pk fin
  refine h1 p σ H ρ s _ e pk ?_
  unfold sseq at fin
  cases h : m ρ s with
  | nx ρ' s' => rw [h] at fin; exact fun σ' H' k pk' e' => h2 p σ' H' ρ' s' Z e' pk' (FinS.keep k fin)
  | ret d s' => rw [h] at fin; exact fin
  | bk ρ' s' => rw [h] at fin; exact fin
  | ct ρ' s' => rw [h] at fin; exact fin
  | exc c ns xs ρ' s' => rw [h] at fin; exact fin
  | bad => rw [h] at fin; exact fin
theorem dss_nil : DSs G X W [] tNext (fun ρ s => .nx ρ s) := ⟨pss_nil, fun p σ H ρ s Z e pk fin => fin σ H Keep.refl pk e⟩
theorem dss_cons (h1 : DS G X W st t m) (h2 : DSs G X W sts u m') : DSs G X W (st :: sts) (tSeq t u) (sseq m m') := ⟨pss_cons h1.ps h2.ps, run_seq h1.run h2.run⟩
theorem dss_one (h1 : DS G X W st t m) : DSs G X W [st] t m := ⟨pss_one h1.ps, h1.run⟩
theorem ds_pass : DS G X W (.Pass pos) tNext (fun ρ s => .nx ρ s) := ⟨ps_pass, fun p σ H ρ s Z e pk fin => fin σ H Keep.refl pk e⟩
theorem ds_break : DS G X W (.Break pos) tBreak (fun ρ s => .bk ρ s) := ⟨ps_break, fun p σ H ρ s Z e pk fin => fin σ H Keep.refl pk e⟩
theorem ds_continue : DS G X W (.Continue pos) tCont (fun ρ s => .ct ρ s) := ⟨ps_continue, fun p σ H ρ s Z e pk fin => fin σ H Keep.refl pk e⟩
/-- an expression's outcome, then -/
def sof {α : Type} (o : Out α) (ρ : Loc) (k : α → Pen → OutS) : OutS := match o with
  | .ok a s => k a s
  | .exc c ns xs s => .exc c ns xs ρ s
  | .bad => .bad
theorem FinS.step {α β : Type} {R : Fm → Hp → α → β → Prop} {p : Fm} {σ : St} {H : Hp} {ρ : Loc} {Z : Ends} {o : Out α} {k : α → Pen → OutS} {Q : β → Hp → Prop} (fin : FinS G W p H Z (sof o ρ k)) (e : ∀ H1 s1, Keep p H H1 → PenOk G p H1 s1 → EnvOk G p H1 σ ρ)
    (hb : ∀ a s1 b H1, Keep p H H1 → PenOk G p H1 s1 → R p H1 a b → FinS G W p H1 Z (k a s1) → Q b H1) : FinG G W R p σ H Q o := by
  cases o with
  | ok a s1 => exact fun b H1 k1 pk1 r => hb a s1 b H1 k1 pk1 r (FinS.keep k1 fin)
  | exc c ns xs s1 => exact fun dd H1 k1 pk1 x => fin dd σ H1 k1 pk1 (e H1 s1 k1 pk1) x
  | bad => exact fin
theorem ds_expr (he : DE G X W e te fe) (hs : swapsWith e none pos.line X.env = pure false := by rfl) : DS G X W (.Expr e pos) (tDrop te) (fun ρ s => sof (fe ρ s) ρ fun _ s' => .nx ρ s') := by
  refine ⟨ps_expr he.pe hs, fun p σ H ρ s Z e pk fin => ?_⟩
  exact he.run p σ H ρ s _ e pk (fin.step (fun H1 s1 k1 pk1 => e.keep pk.at k1) fun d s1 v H1 k1 pk1 rd fin1 => fin1 σ H1 Keep.refl pk1 (e.keep pk.at k1))
theorem ds_ret (he : DE G X W e te fe) : DS G X W (.Return (some e) pos) (tRet te) (fun ρ s => sof (fe ρ s) ρ fun d s' => .ret d s') := by
  refine ⟨ps_ret he.pe, fun p σ H ρ s Z e pk fin => ?_⟩
  exact he.run p σ H ρ s _ e pk (fin.step (fun H1 s1 k1 pk1 => e.keep pk.at k1) fun d s1 v H1 k1 pk1 rd fin1 => fin1 v H1 Keep.refl pk1 rd)
theorem ds_retN : DS G X W (.Return none pos) tRetN (fun _ s => .ret .non s) := ⟨ps_retN, fun p σ H ρ s Z e pk fin => fin _ H Keep.refl pk rfl⟩
theorem ds_if {x y : List Stmt} (hc : DT G X W c A1 f1) (ha : DSs G X W x t m) (hb : DSs G X W y u m') : DS G X W (.If c x y pos) (tIfS A1 t u) (fun ρ s => sof (f1 ρ s) ρ fun k s' => if k = true then m ρ s' else m' ρ s') := by
  refine ⟨ps_if hc.pt ha.ps hb.ps, fun p σ H ρ s Z e pk fin => ?_⟩
  refine hc.run p σ H ρ s _ e pk (fin.step (fun H1 s1 k1 pk1 => e.keep pk.at k1) fun x s1 b H1 k1 pk1 rx fin1 => ?_)
  obtain rfl : b = x := rx
  cases b with
  | true =>
    rw [if_pos rfl] at fin1 ⊢
    exact ha.run p σ H1 ρ s1 Z (e.keep pk.at k1) pk1 fin1
  | false =>
    rw [if_neg Bool.false_ne_true] at fin1 ⊢
    exact hb.run p σ H1 ρ s1 Z (e.keep pk.at k1) pk1 fin1

/-! ### targets -/
/-- only the slots in vs differ -/
def Off (vs : List Nat) (σ σ' : St) : Prop := σ'.length = σ.length ∧ ∀ i, i ∉ vs → σ'[i]? = σ[i]?
def RunGt (G : Gt) (vs : List Nat) (g : TG) (gm : D → Loc → Option Loc) : Prop :=
  ∀ (p : Fm) (σ : St) (H : Hp) (ρ : Loc) (d : D) (v : V) (Q : St → Hp → Prop), EnvOk G p H σ ρ → Rep G p H d v → (match gm d ρ with | some ρ' => ∀ σ', EnvOk G p H σ' ρ' → Off vs σ σ' → Q σ' H | none => False) → g v σ H Q
def RunGs (G : Gt) (vs : List Nat) (g : TGs) (gm : List D → Loc → Option Loc) : Prop :=
  ∀ (p : Fm) (σ : St) (H : Hp) (ρ : Loc) (ds : List D) (us : List V) (Q : St → Hp → Prop), EnvOk G p H σ ρ → RepL G p H ds us → (match gm ds ρ with | some ρ' => ∀ σ', EnvOk G p H σ' ρ' → Off vs σ σ' → Q σ' H | none => False) → g us σ H Q
structure DG (G : Gt) (X : Cx) (vs : List Nat) (tg : Expr) (g : TG) (gm : D → Loc → Option Loc) : Prop where
  pg : PG X tg g
  run : RunGt G vs g gm
structure DGs (G : Gt) (X : Cx) (vs : List Nat) (tg : List Expr) (g : TGs) (gm : List D → Loc → Option Loc) : Prop where
  pg : PGs X tg g
  run : RunGs G vs g gm
theorem off_set {σ : St} {i : Nat} {o : Option V} {vs : List Nat} (h : i ∈ vs) : Off vs σ (σ.set i o) := ⟨by simp, fun j hj => by
  rw [List.getElem?_set, if_neg]
  intro e
  subst e
  exact hj h⟩
theorem Off.trans {vs : List Nat} {σ σ1 σ2 : St} (a : Off vs σ σ1) (b : Off vs σ1 σ2) : Off vs σ σ2 := ⟨b.1.trans a.1, fun i hi => (b.2 i hi).trans (a.2 i hi)⟩
theorem Off.refl {vs : List Nat} {σ : St} : Off vs σ σ := ⟨rfl, fun _ _ => rfl⟩
def gnm (i : Nat) : D → Loc → Option Loc := fun d ρ => some (ρ.set i (some d))
theorem dg_name {vs : List Nat} {i : Nat} {x : Str} (hv : i ∈ vs) (hN : X.N.Nodup) (hi : X.N[i]? = some x := by rfl) (hx : L2.Loc X.env.scope x := by first | exact Or.inl rfl | exact Or.inr rfl) (hf : X.fn x = true ∨ X.env.scope.names.lookup x = some .local := by first | exact .inl rfl | exact .inr rfl | assumption) : DG G X vs (.Name x pos) (gName i) (gnm i) :=
  ⟨pg_name hN hi hx hf, fun p σ H ρ d v Q e rd h => h _ (e.set rd) (off_set hv)⟩
theorem dgs_nil {vs : List Nat} : DGs G X vs [] gNil (fun ds ρ => match ds with | [] => some ρ | _ => none) := by
  refine ⟨pgs_nil, fun p σ H ρ ds us Q e rs h => ?_⟩
  cases ds with
  | nil =>
    obtain rfl : us = [] := rs
    exact ⟨rfl, h _ e Off.refl⟩
  | cons d ds => exact h.elim
def gcn (g1 : D → Loc → Option Loc) (g2 : List D → Loc → Option Loc) : List D → Loc → Option Loc := fun ds ρ => match ds with
  | d :: r => (match g1 d ρ with
    | some ρ' => g2 r ρ'
    | none => none)
  | [] => none
theorem dgs_cons {vs : List Nat} {g : TG} {gs : TGs} {g1 : D → Loc → Option Loc} {g2 : List D → Loc → Option Loc} (h1 : DG G X vs e g g1) (h2 : DGs G X vs es gs g2) (hp : PGs X (e :: es) (gCons g gs)) : DGs G X vs (e :: es) (gCons g gs) (gcn g1 g2) := by
  refine ⟨hp, fun p σ H ρ ds us Q en rs h => ?_⟩
  cases ds with
  | nil => exact h.elim
  | cons d r =>
    obtain ⟨v, vr, rfl, rd, rr⟩ := rs
    refine ⟨v, vr, rfl, ?_⟩
    refine h1.run p σ H ρ d v _ en rd ?_
    unfold gcn at h
    dsimp only at h
    cases q : g1 d ρ with
    | none => rw [q] at h; exact h.elim
    | some ρ' =>
      rw [q] at h
      intro σ' e' o'
      refine h2.run p σ' H ρ' r vr Q e' rr ?_
      dsimp only at h
      cases q2 : g2 r ρ' with
      | none => rw [q2] at h; exact h.elim
      | some ρ2 =>
        rw [q2] at h
        exact fun σ2 e2 o2 => h σ2 e2 (o'.trans o2)
def gtm (n : Nat) (g : List D → Loc → Option Loc) : D → Loc → Option Loc := fun d ρ => match d with
  | .tup ds => if decide (ds.length = n) = true then g ds ρ else none
  | _ => none
def glm (n : Nat) (g : List D → Loc → Option Loc) : D → Loc → Option Loc := fun d ρ => match d with
  | .lst ds => if decide (ds.length = n) = true then g ds ρ else none
  | _ => none
theorem dg_tup {vs : List Nat} {n : Nat} {gs : TGs} {g2 : List D → Loc → Option Loc} {tg : Expr} (h : RunGs G vs gs g2) (hp : PG X tg (gTup K n gs)) : DG G X vs tg (gTup K n gs) (gtm n g2) := by
  refine ⟨hp, fun p σ H ρ d v Q en rd q => ?_⟩
  unfold gtm at q
  cases d <;> first
    | exact q.elim
    | skip
  rename_i ds
  obtain ⟨a, us, rfl, h0, h1, rs⟩ := rd
  dsimp only at q
  by_cases hl : ds.length = n
  · rw [if_pos (decide_eq_true hl)] at q
    exact ⟨a, us, rfl, SqT.of h1, by rw [← repL_len rs]; exact hl, h p σ H ρ ds us Q en rs q⟩
  · rw [if_neg (by simp [hl])] at q
    exact q.elim
theorem dg_lst {vs : List Nat} {n : Nat} {gs : TGs} {g2 : List D → Loc → Option Loc} {tg : Expr} (h : RunGs G vs gs g2) (hp : PG X tg (gLst K n gs)) : DG G X vs tg (gLst K n gs) (glm n g2) := by
  refine ⟨hp, fun p σ H ρ d v Q en rd q => ?_⟩
  unfold glm at q
  cases d <;> first
    | exact q.elim
    | skip
  rename_i ds
  obtain ⟨a, us, rfl, h0, h1, rs⟩ := rd
  dsimp only at q
  by_cases hl : ds.length = n
  · rw [if_pos (decide_eq_true hl)] at q
    exact ⟨a, us, rfl, SqL.of h1, by rw [← repL_len rs]; exact hl, h p σ H ρ ds us Q en rs q⟩
  · rw [if_neg (by simp [hl])] at q
    exact q.elim
def sasg (fe : Loc → M D) (gm : D → Loc → Option Loc) : MS := fun ρ s => sof (fe ρ s) ρ fun d s' => match gm d ρ with
  | some ρ' => .nx ρ' s'
  | none => .bad
theorem run_asg {vs : List Nat} {g : TG} {gm : D → Loc → Option Loc} (he : RunG G W (RelE G) te fe) (hg : RunGt G vs g gm) : RunS G W (tAsg te g) (sasg fe gm) := by
  intro p σ H ρ s Z e pk fin
  refine he p σ H ρ s _ e pk (FinS.step fin (fun H1 s1 k1 pk1 => e.keep pk.at k1) fun d s1 v H1 k1 pk1 rd fin1 => ?_)
  refine hg p σ H1 ρ d v _ (e.keep pk.at k1) rd ?_
  cases h : gm d ρ with
  | none => rw [h] at fin1; exact fin1
  | some ρ' => rw [h] at fin1; exact fun σ' e' _ => fin1 σ' H1 Keep.refl pk1 e'
theorem ds_asg {vs : List Nat} {tg : Expr} {g : TG} {gm : D → Loc → Option Loc} (he : DE G X W e te fe) (hg : DG G X vs tg g gm) (hs : swapsWithSole [tg] e pos.line X.env = pure false := by rfl) (hw : swappedStores [tg] e X.env = pure none := by rfl)
    (h1 : (assignEach [tg] X.env).map (·.2) = [assign tg X.env] := by rfl) : DS G X W (.Assign [tg] e pos) (tAsg te g) (sasg fe gm) := ⟨ps_asg he.pe hg.pg hs hw h1, run_asg he.run hg.run⟩
theorem run_gname {i : Nat} : RunGt G [i] (gName i) (gnm i) := fun p σ H ρ d v Q e rd h => h _ (e.set rd) (off_set (List.mem_singleton.mpr rfl))
theorem ds_set {i : Nat} {x : Str} {pos' : Pos} (hN : X.N.Nodup) (he : DE G X W e te fe) (hi : X.N[i]? = some x := by rfl) (hx : L2.Loc X.env.scope x := by first | exact Or.inl rfl | exact Or.inr rfl) (hs : swapsWith e (some (.Name x pos')) pos.line X.env = pure false := by rfl) (hf : X.fn x = true ∨ X.env.scope.names.lookup x = some .local := by first | exact .inl rfl | exact .inr rfl | assumption) :
    DS G X W (.Assign [.Name x pos'] e pos) (tAsg te (gName i)) (sasg fe (gnm i)) := ⟨ps_set hN hi hx he.pe hs hf, run_asg he.run run_gname⟩
/-- a, b = x, y -/
def spar (i j : Nat) (fA : Loc → M (List D)) : MS := fun ρ s => sof (fA ρ s) ρ fun ds s' => match ds with
  | [x, y] => .nx ((ρ.set i (some x)).set j (some y)) s'
  | _ => .bad
theorem run_par {i j : Nat} (ha : RunG G W (RelA G) tA fA) : RunS G W (tPar i j tA) (spar i j fA) := by
  intro p σ H ρ s Z e pk fin
  refine ha p σ H ρ s _ e pk (FinS.step fin (fun H1 s1 k1 pk1 => e.keep pk.at k1) fun ds s1 vs H1 k1 pk1 rs fin1 => ?_)
  cases ds with
  | nil => exact fin1.elim
  | cons x r =>
    cases r with
    | nil => exact fin1.elim
    | cons y r =>
      cases r with
      | nil =>
        obtain ⟨v, _, rfl, rx, w, _, rfl, ry, hz⟩ := rs
        obtain rfl := hz
        exact ⟨v, w, rfl, fin1 _ H1 Keep.refl pk1 (((e.keep pk.at k1).set rx).set ry)⟩
      | cons z r => exact fin1.elim

/-! ### what is walked -/
/-- the items of an iterator, whatever else happens meanwhile -/
def Wider (p q : Fm) (H1 : Hp) : Prop := q.pen = p.pen ∧ q.obj = p.obj ∧ ∀ a o, H1 a = some o → ¬ p.out a → ¬ q.out a
theorem Fm.mut_eq {p q : Fm} (h1 : q.pen = p.pen) (h2 : q.obj = p.obj) {a : Addr} : q.mut a ↔ p.mut a := by unfold Fm.mut; rw [h1, h2]
theorem Wider.refl {p : Fm} {H1 : Hp} : Wider p p H1 := ⟨rfl, rfl, fun _ _ _ h => h⟩
def IterOk (G : Gt) (p : Fm) (H1 : Hp) (ds : List D) (J : It) : Prop :=
  ∀ q H s, Wider p q H1 → Keep p H1 H → PenOk G q H s → (∀ (i : Nat) d, ds[i]? = some d → J.go i H ∧ ∀ x H', J.yld i H x H' → Keep q H H' ∧ PenOk G q H' s ∧ Rep G q H' d x) ∧ J.stop ds.length H
abbrev RelI (G : Gt) : Fm → Hp → List D → It → Prop := fun p H ds J => IterOk G p H ds J
structure DI (G : Gt) (X : Cx) (W : WX) (tg iter : Expr) (wi : TI) (m : Loc → M (List D)) : Prop where
  pi : PI X tg iter wi
  run : RunG G W (RelI G) wi m
def asL (d : D) : M (List D) := match d with
  | .lst xs => mret xs
  | _ => mbad
def asT (d : D) : M (List D) := match d with
  | .tup xs => mret xs
  | _ => mbad
theorem iter_list {p : Fm} {H1 : Hp} {a : Addr} {vs : List V} {ds : List D} {s1 : Pen} (pk1 : PenOk G p H1 s1) (h0 : ¬ p.out a) (h : H1 a = some (.lst vs)) (rs : RepL G p H1 ds vs) : IterOk G p H1 ds (Itl K a) := by
  intro q H s wd k pk
  have h' : H a = some (.lst vs) := k _ _ (Fm.no h0) h
  have rs' := repL_keep (p := q) trivial (fun a o n e => k a o (fun z => n ((Fm.mut_eq wd.1 wd.2.1).mpr z)) e) _ _ (repL_out wd.1 wd.2.1 wd.2.2 _ _ rs)
  refine ⟨fun i d e => ?_, ⟨vs, SqL.of h', by rw [repL_len rs']; exact Nat.le_refl _⟩⟩
  obtain ⟨v, e1, e2⟩ := repL_get rs' e
  refine ⟨⟨vs, v, SqL.of h', e1⟩, fun x H' y => ?_⟩
  obtain ⟨rfl, y⟩ := y
  have ex := y vs (SqL.of h')
  rw [e1] at ex
  cases ex
  exact ⟨Keep.refl, pk, e2⟩
theorem iter_tup {p : Fm} {H1 : Hp} {a : Addr} {vs : List V} {ds : List D} {s1 : Pen} (pk1 : PenOk G p H1 s1) (h0 : ¬ p.out a) (h : H1 a = some (.tup vs)) (rs : RepL G p H1 ds vs) : IterOk G p H1 ds (Itt K a) := by
  intro q H s wd k pk
  have h' : H a = some (.tup vs) := k _ _ (Fm.no h0) h
  have rs' := repL_keep (p := q) trivial (fun a o n e => k a o (fun z => n ((Fm.mut_eq wd.1 wd.2.1).mpr z)) e) _ _ (repL_out wd.1 wd.2.1 wd.2.2 _ _ rs)
  refine ⟨fun i d e => ?_, ⟨vs, SqT.of h', by rw [repL_len rs']; exact Nat.le_refl _⟩⟩
  obtain ⟨v, e1, e2⟩ := repL_get rs' e
  refine ⟨⟨vs, v, SqT.of h', e1⟩, fun x H' y => ?_⟩
  obtain ⟨rfl, y⟩ := y
  have ex := y vs (SqT.of h')
  rw [e1] at ex
  cases ex
  exact ⟨Keep.refl, pk, e2⟩
theorem di_list {tg l : Expr} (hK : X.K = K) (hl : DE G X W l te fe) : DI G X W tg l (iList K te) (fun ρ => mbind (fe ρ) asL) := by
  subst hK
  refine ⟨pi_list hl.pe, fun p σ H ρ s Q e pk fin => ?_⟩
  refine hl.run p σ H ρ s _ e pk (fin.step fun d s1 v H1 k1 pk1 rd fin1 => ?_)
  cases d <;> first
    | exact fin1.elim
    | skip
  rename_i ds
  obtain ⟨a, vs, rfl, h0, h1, rs⟩ := rd
  exact ⟨a, rfl, ⟨vs, SqL.of h1⟩, fin1 _ H1 Keep.refl pk1 (iter_list pk1 h0 h1 rs)⟩
theorem di_tup {tg l : Expr} (hK : X.K = K) (hl : DE G X W l te fe) : DI G X W tg l (iTup K te) (fun ρ => mbind (fe ρ) asT) := by
  subst hK
  refine ⟨pi_tup hl.pe, fun p σ H ρ s Q e pk fin => ?_⟩
  refine hl.run p σ H ρ s _ e pk (fin.step fun d s1 v H1 k1 pk1 rd fin1 => ?_)
  cases d <;> first
    | exact fin1.elim
    | skip
  rename_i ds
  obtain ⟨a, vs, rfl, h0, h1, rs⟩ := rd
  exact ⟨a, rfl, ⟨vs, SqT.of h1⟩, fin1 _ H1 Keep.refl pk1 (iter_tup pk1 h0 h1 rs)⟩
def rngL (lo : Int) (n : Nat) : List D := (List.range n).map fun i => .int (lo + (i : Nat))
theorem iter_rng {p : Fm} {H1 : Hp} {lo : Int} {n : Nat} : IterOk G p H1 (rngL lo n) (Itr lo n) := by
  intro q H s wd k pk
  refine ⟨fun i d e => ?_, by show n ≤ (rngL lo n).length; simp [rngL]⟩
  have hi : i < n := by
    obtain ⟨h, _⟩ := List.getElem?_eq_some_iff.mp e
    simpa [rngL] using h
  refine ⟨hi, fun x H' y => ?_⟩
  obtain ⟨rfl, rfl⟩ := y
  have ed : d = .int (lo + i) := by
    simp [rngL, List.getElem?_map, List.getElem?_range hi] at e
    exact e.symm
  subst ed
  exact ⟨Keep.refl, pk, rfl⟩
def rng1 (ds : List D) : M (List D) := match ds with
  | [.int j] => if decide (j < 100000) = true ∧ decide (-100000 < j) = true then mret (rngL 0 j.toNat) else mbad
  | _ => mbad
def rng2 (ds : List D) : M (List D) := match ds with
  | [.int i, .int j] => if decide (j < 100000) = true ∧ decide (-100000 < j) = true ∧ decide (i < 100000) = true ∧ decide (-100000 < i) = true then mret (rngL i (j - i).toNat) else mbad
  | _ => mbad
theorem di_range1 {tg : Expr} {p0 : Pos} (hg : Gl X "range") (hm : X.mg "range" = none) (ha : DA G X W [a] tA fA) (hs : starEach [a] X.env = [(false, eval a X.env)] := by rfl) : DI G X W tg (.Call (.Name "range" p0) [a] [] pos) (iRng1 tA) (fun ρ => mbind (fA ρ) rng1) := by
  refine ⟨pi_range1 hg hm ha.pa hs, fun p σ H ρ s Q e pk fin => ?_⟩
  refine ha.run p σ H ρ s _ e pk (fin.step fun ds s1 vs H1 k1 pk1 rs fin1 => ?_)
  unfold rng1 at fin1
  split at fin1
  · split at fin1
    · rename_i j hj
      obtain ⟨v, _, rfl, rx, hz⟩ := rs
      obtain rfl := hz
      obtain rfl : v = .int j := rx
      have h1 := of_decide_eq_true hj.1
      have h2 := of_decide_eq_true hj.2
      exact ⟨j, rfl, by omega, by omega, fin1 _ H1 Keep.refl pk1 iter_rng⟩
    · exact fin1.elim
  · exact fin1.elim
theorem di_range2 {tg : Expr} {p0 : Pos} (hg : Gl X "range") (hm : X.mg "range" = none) (ha : DA G X W [a, b] tA fA) (hs : starEach [a, b] X.env = [(false, eval a X.env), (false, eval b X.env)] := by rfl) (hs2 : starEach [b] X.env = [(false, eval b X.env)] := by rfl) :
    DI G X W tg (.Call (.Name "range" p0) [a, b] [] pos) (iRng2 tA) (fun ρ => mbind (fA ρ) rng2) := by
  refine ⟨pi_range2 hg hm ha.pa hs hs2, fun p σ H ρ s Q e pk fin => ?_⟩
  refine ha.run p σ H ρ s _ e pk (fin.step fun ds s1 vs H1 k1 pk1 rs fin1 => ?_)
  unfold rng2 at fin1
  split at fin1
  · split at fin1
    · rename_i i j hj
      obtain ⟨v, _, rfl, rx, w, _, rfl, ry, hz⟩ := rs
      obtain rfl := hz
      obtain rfl : v = .int i := rx
      obtain rfl : w = .int j := ry
      have h1 := of_decide_eq_true hj.1
      have h2 := of_decide_eq_true hj.2.1
      have h3 := of_decide_eq_true hj.2.2.1
      have h4 := of_decide_eq_true hj.2.2.2
      exact ⟨i, j, rfl, ⟨by omega, by omega, by omega, by omega⟩, fin1 _ H1 Keep.refl pk1 iter_rng⟩
    · exact fin1.elim
  · exact fin1.elim

/-! ### for -/
def sloop (gm : D → Loc → Option Loc) (mb : MS) : List D → MS
  | [] => fun ρ s => .nx ρ s
  | d :: ds => fun ρ s => match gm d ρ with
    | none => .bad
    | some ρ1 => (match mb ρ1 s with
      | .nx ρ2 s2 => sloop gm mb ds ρ2 s2
      | .ct ρ2 s2 => sloop gm mb ds ρ2 s2
      | .bk ρ2 s2 => .nx ρ2 s2
      | .ret d s2 => .ret d s2
      | .exc c ns xs ρ2 s2 => .exc c ns xs ρ2 s2
      | .bad => .bad)
def sfor (fi : Loc → M (List D)) (gm : D → Loc → Option Loc) (mb : MS) : MS := fun ρ s => sof (fi ρ s) ρ fun ds s' => sloop gm mb ds ρ s'
theorem run_for {vs : List Nat} {wi : TI} {g : TG} {gm : D → Loc → Option Loc} {fi : Loc → M (List D)} (hi : RunG G W (RelI G) wi fi) (hg : RunGt G vs g gm) (hb : RunS G W tb mb) : RunS G W (tFor wi g tb) (sfor fi gm mb) := by
  intro p σ H ρ s Z e pk fin
  refine hi p σ H ρ s _ e pk (FinS.step fin (fun H1 s1 k1 pk1 => e.keep pk.at k1) fun ds s1 J H1 k1 pk1 it fin1 => ?_)
  refine ⟨fun i n σ' H' => n = ds.length - i ∧ i ≤ ds.length ∧ ∃ ρ' s', EnvOk G p H' σ' ρ' ∧ PenOk G p H' s' ∧ Keep p H1 H' ∧ FinS G W p H' Z (sloop gm mb (ds.drop i) ρ' s'), ⟨ds.length, by simp, Nat.zero_le _, ρ, s1, e.keep pk.at k1, pk1, Keep.refl, fin1⟩, ?_⟩
  rintro i n σ' H' ⟨rfl, hle, ρ', s', e', pk', k', fin'⟩
  obtain ⟨hgo, hst⟩ := it p H' s' Wider.refl k' pk'
  by_cases hlt : i < ds.length
  · have ed : ds[i]? = some ds[i] := List.getElem?_eq_some_iff.mpr ⟨hlt, rfl⟩
    obtain ⟨g1, g2⟩ := hgo i _ ed
    rw [List.drop_eq_getElem_cons hlt] at fin'
    refine .inr ⟨g1, fun σ2 H2 => ∃ ρ2 s2, EnvOk G p H2 σ2 ρ2 ∧ PenOk G p H2 s2 ∧ Keep p H1 H2 ∧ FinS G W p H2 Z (sloop gm mb (ds.drop (i + 1)) ρ2 s2), fun σ2 H2 h => ⟨ds.length - (i + 1), by omega, rfl, hlt, h⟩, fun x Hx y => ?_⟩
    obtain ⟨kx, pkx, rx⟩ := g2 x Hx y
    refine hg p σ' Hx ρ' _ x _ (e'.keep pk'.at kx) rx ?_
    have fin2 := FinS.keep kx fin'
    unfold sloop at fin2
    cases q : gm ds[i] ρ' with
    | none => rw [q] at fin2; exact fin2
    | some ρ1 =>
      rw [q] at fin2
      intro σ2 e2 _
      refine hb p σ2 Hx ρ1 s' _ e2 pkx ?_
      dsimp only at fin2
      cases q2 : mb ρ1 s' with
      | nx ρ2 s2 => rw [q2] at fin2; exact fun σ3 H3 k3 pk3 e3 => ⟨ρ2, s2, e3, pk3, (k'.trans kx).trans k3, FinS.keep k3 fin2⟩
      | ct ρ2 s2 => rw [q2] at fin2; exact fun σ3 H3 k3 pk3 e3 => ⟨ρ2, s2, e3, pk3, (k'.trans kx).trans k3, FinS.keep k3 fin2⟩
      | bk ρ2 s2 => rw [q2] at fin2; exact fin2
      | ret d s2 => rw [q2] at fin2; exact fin2
      | exc c ns xs ρ2 s2 => rw [q2] at fin2; exact fin2
      | bad => rw [q2] at fin2; exact fin2
  · have ei : i = ds.length := by omega
    subst ei
    rw [List.drop_length] at fin'
    exact .inl ⟨hst, fin' σ' H' Keep.refl pk' e'⟩
theorem ds_for {vs : List Nat} {tg iter : Expr} {body : List Stmt} {wi : TI} {g : TG} {gm : D → Loc → Option Loc} {fi : Loc → M (List D)} (hp : PassesOwn (model X.prog X.w) X.A X.env X.xe) (hc : X.calm = true) (hi : DI G X W tg iter wi fi) (hg : DG G X vs tg g gm) (hb : DSs G X W body tb mb)
    (hs : ∀ x, foldedSetIterable iter X.env x = pure x := by intro _; rfl) : DS G X W (.For tg iter body [] pos) (tFor wi g tb) (sfor fi gm mb) := ⟨ps_for hp hc hi.pi hg.pg hb.ps hs, run_for hi.run hg.run hb.run⟩


/-! ### comprehensions -/
def nox {α : Type} (m : M α) : M α := fun s => match m s with
  | .ok a s' => .ok a s'
  | _ => .bad
def cloop (gm : D → Loc → Option Loc) (mt : Loc → M Bool) (me : Loc → M D) : List D → Loc → List D → M (List D)
  | [], _, acc => mret acc
  | d :: ds, ρ, acc => match gm d ρ with
    | none => mbad
    | some ρ1 => mbind (nox (mt ρ1)) fun c => if c = true then (mbind (nox (me ρ1)) fun y => if decide (acc.length < 100000) = true then cloop gm mt me ds ρ (acc ++ [y]) else mbad) else cloop gm mt me ds ρ acc
def wipeL (ρ : Loc) : List Nat → Loc
  | [] => ρ
  | v :: vs => (wipeL ρ vs).set v none
theorem wipeL_len (ρ : Loc) : ∀ vs, (wipeL ρ vs).length = ρ.length
  | [] => rfl
  | v :: vs => by unfold wipeL; rw [List.length_set]; exact wipeL_len ρ vs
theorem wipeL_some {ρ : Loc} {i : Nat} {d : D} : ∀ {vs : List Nat}, (wipeL ρ vs)[i]? = some (some d) → ρ[i]? = some (some d) ∧ i ∉ vs
  | [], h => ⟨h, by simp⟩
  | v :: vs, h => by
    unfold wipeL at h
    rw [List.getElem?_set] at h
    by_cases e : v = i
    · subst e
      simp only [if_true] at h
      split at h <;> cases h
    · rw [if_neg e] at h
      obtain ⟨h1, h2⟩ := wipeL_some h
      exact ⟨h1, by simp [h2, Ne.symm e]⟩
theorem wipe_in {σ : St} {i : Nat} : ∀ {vs : List Nat}, i ∈ vs → (wipe σ vs)[i]? = if i < σ.length then some none else none
  | [], h => by cases h
  | v :: vs, h => by
    unfold wipe
    rw [List.getElem?_set, wipe_length]
    by_cases e : v = i
    · subst e; simp
    · rw [if_neg e]
      exact wipe_in ((List.mem_cons.mp h).resolve_left (Ne.symm e))
theorem wipe_off {σ σ2 : St} {vs : List Nat} (h : Off vs (wipe σ vs) σ2) : wipe σ2 vs = wipe σ vs := by
  refine List.ext_getElem? fun i => ?_
  have hl : σ2.length = σ.length := h.1.trans (wipe_length σ vs)
  by_cases e : i ∈ vs
  · rw [wipe_in e, wipe_in e, hl]
  · rw [wipe_out e, h.2 i e]
theorem EnvOk.wipe {p : Fm} {H : Hp} {σ : St} {ρ : Loc} {vs : List Nat} (e : EnvOk G p H σ ρ) : EnvOk G p H (wipe σ vs) (wipeL ρ vs) := by
  refine ⟨by rw [wipe_length, wipeL_len]; exact e.1, fun i d h => ?_⟩
  obtain ⟨h1, h2⟩ := wipeL_some h
  obtain ⟨v, h3, h4⟩ := e.2 i d h1
  exact ⟨v, by rw [wipe_out h2]; exact h3, h4⟩
theorem EnvOk.upd {p : Fm} {H : Hp} {σ : St} {ρ : Loc} {a : Addr} {o : HO} (e : EnvOk G p H σ ρ) (ha : p.out a) : EnvOk G p (L2.upd H a o) σ ρ :=
  ⟨e.1, fun i d h => let ⟨v, h1, h2⟩ := e.2 i d h; ⟨v, h1, rep_upd ha d v h2⟩⟩
theorem EnvOk.out {p q : Fm} {H : Hp} {σ : St} {ρ : Loc} (e : EnvOk G p H σ ρ) (w : Wider p q H) : EnvOk G q H σ ρ :=
  ⟨e.1, fun i d h => let ⟨v, h1, h2⟩ := e.2 i d h; ⟨v, h1, rep_out w.1 w.2.1 w.2.2 d v h2⟩⟩
theorem PenOk.upd {p : Fm} {H : Hp} {s : Pen} {a : Addr} {o : HO} (h : PenOk G p H s) (ha : p.out a) (hn : ¬ p.mut a) : PenOk G p (L2.upd H a o) s := by
  refine ⟨fun b kd e => (h.1 b kd e).keep (upd_ne fun z => hn (.inl ⟨kd, by rw [← z]; exact e⟩)) fun c u hc eh => ?_, fun x c dx e => ?_, fun b hb => ?_⟩
  · rw [upd_ne (fun z => hc (by rw [z]; exact ha))]; exact eh
  · obtain ⟨vs, h1, hl, h2⟩ := h.2.1 x c dx e
    exact ⟨vs, by rw [upd_ne (fun z => hn (.inr ⟨c, dx, by rw [← z]; exact e⟩))]; exact h1, hl, repL_upd ha _ _ h2⟩
  · by_cases e : b = a
    · subst e; exact ⟨o, upd_same⟩
    · rw [upd_ne e]; exact h.2.2 b hb
/-- one address more that no tree names -/
def Fm.add (p : Fm) (a : Addr) : Fm := ⟨p.pen, p.obj, fun b => p.out b ∨ b = a, fun b kd e => .inl (p.okp b kd e), fun x c d e => .inl (p.oko x c d e), p.neo⟩
theorem wider_add {p : Fm} {H : Hp} {a : Addr} (n : H a = none) : Wider p (p.add a) H := ⟨rfl, rfl, fun b o e h z => z.elim h fun z => ne_of_none e n z⟩
theorem PenOk.add {p : Fm} {H : Hp} {s : Pen} {a : Addr} {o : HO} (h : PenOk G p H s) (n : H a = none) : PenOk G (p.add a) (L2.upd H a o) s := by
  have h' : PenOk G p (L2.upd H a o) s := h.new n
  refine ⟨fun b kd e => ?_, fun x c dx e => ?_, fun b hb => ?_⟩
  · rcases h.1 b kd e with ⟨e1, e2⟩ | ⟨c, e1, h0, h1, h2⟩
    · exact .inl ⟨e1, by rw [upd_ne (ne_of_none e2 n)]; exact e2⟩
    · exact .inr ⟨c, e1, fun z => z.elim h0 fun z => ne_of_none h2 n z, by rw [upd_ne (ne_of_none h1 n)]; exact h1, by rw [upd_ne (ne_of_none h2 n)]; exact h2⟩
  · obtain ⟨vs, h1, hl, h2⟩ := h.2.1 x c dx e
    exact ⟨vs, by rw [upd_ne (ne_of_none h1 n)]; exact h1, hl, repL_keep trivial (Keep.new n) _ _ (repL_out (p := p) (q := p.add a) rfl rfl (wider_add n).2.2 _ _ h2)⟩
  · by_cases e : b = a
    · subst e; exact ⟨o, upd_same⟩
    · rw [upd_ne e]; exact h.2.2 b (hb.resolve_right e)
theorem PenOk.sub {p : Fm} {H : Hp} {s : Pen} {a : Addr} (h : PenOk G (p.add a) H s) : PenOk G p H s := by
  refine ⟨fun b kd e => ?_, fun x c dx e => ?_, fun b hb => h.2.2 b (.inl hb)⟩
  · rcases h.1 b kd e with e1 | ⟨c, e1, h0, h1, h2⟩
    · exact .inl e1
    · exact .inr ⟨c, e1, fun z => h0 (.inl z), h1, h2⟩
  · obtain ⟨vs, h1, hl, h2⟩ := h.2.1 x c dx e
    exact ⟨vs, h1, hl, repL_out (p := p.add a) (q := p) rfl rfl (fun a o _ h z => h (.inl z)) _ _ h2⟩
theorem PenOk.nomut {p : Fm} {H : Hp} {s : Pen} {a : Addr} (h : PenOk G p H s) (n : H a = none) : ¬ p.mut a := Fm.no (h.free n)
theorem run_lc {vs : List Nat} {wi : TI} {g : TG} {gm : D → Loc → Option Loc} {fi : Loc → M (List D)} {tt : TT} {mt : Loc → M Bool} (hi : RunG G W (RelI G) wi fi) (hg : RunGt G vs g gm) (ht : RunG G (fun _ _ _ _ => False) RelB tt mt) (he : RunG G (fun _ _ _ _ => False) (RelE G) te fe) :
    RunG G W (RelE G) (tLc wi g tt te vs) (fun ρ => mbind (fi ρ) fun ds => mbind (cloop gm mt fe ds (wipeL ρ vs) []) lstD) := by
  intro p σ H ρ s Q e pk fin
  refine hi p σ H ρ s _ e pk (fin.step fun ds s1 J H1 k1 pk1 it fin1 => ?_)
  intro Dd hD
  have e1 : EnvOk G p H1 (wipe σ vs) (wipeL ρ vs) := (e.keep pk.at k1).wipe
  have wd : Wider p (p.add Dd) H1 := wider_add hD
  have hpn : ¬ (p.add Dd).mut Dd := pk1.nomut hD
  refine ⟨fun i n H' => n = ds.length - i ∧ i ≤ ds.length ∧ ∃ ys us s', H' Dd = some (.lst us) ∧ RepL G (p.add Dd) H' ys us ∧ EnvOk G (p.add Dd) H' (wipe σ vs) (wipeL ρ vs) ∧ PenOk G (p.add Dd) H' s' ∧ Keep p H1 H' ∧
    FinG G W (RelE G) p σ H1 Q (mbind (cloop gm mt fe (ds.drop i) (wipeL ρ vs) ys) lstD s'), ⟨ds.length, by simp, Nat.zero_le _, [], [], s1, upd_same, rfl, (e1.out wd).keep trivial (Keep.new hD), pk1.add hD, Keep.new hD, fin1⟩, ?_⟩
  rintro i n H' ⟨rfl, hle, ys, us, s', hd, ry, e', pk', k', fin'⟩
  obtain ⟨hgo, hst⟩ := it (p.add Dd) H' s' wd k' pk'
  by_cases hlt : i < ds.length
  · have ed : ds[i]? = some ds[i] := List.getElem?_eq_some_iff.mpr ⟨hlt, rfl⟩
    obtain ⟨g1, g2⟩ := hgo i _ ed
    rw [List.drop_eq_getElem_cons hlt] at fin'
    refine .inr ⟨g1, fun H2 => ∃ ys us s', H2 Dd = some (.lst us) ∧ RepL G (p.add Dd) H2 ys us ∧ EnvOk G (p.add Dd) H2 (wipe σ vs) (wipeL ρ vs) ∧ PenOk G (p.add Dd) H2 s' ∧ Keep p H1 H2 ∧
      FinG G W (RelE G) p σ H1 Q (mbind (cloop gm mt fe (ds.drop (i + 1)) (wipeL ρ vs) ys) lstD s'), fun H2 h => ⟨ds.length - (i + 1), by omega, rfl, hlt, h⟩, fun x Hx y => ?_⟩
    obtain ⟨kx, pkx, rx⟩ := g2 x Hx y
    refine hg (p.add Dd) (wipe σ vs) Hx (wipeL ρ vs) _ x _ (e'.keep pk'.at kx) rx ?_
    have fin2 : FinG G W (RelE G) p σ H1 Q (obind (cloop gm mt fe (ds[i] :: ds.drop (i + 1)) (wipeL ρ vs) ys s') lstD) := fin'
    unfold cloop at fin2
    cases q : gm ds[i] (wipeL ρ vs) with
    | none => rw [q] at fin2; exact fin2
    | some ρ1 =>
      rw [q] at fin2
      intro σ2 e2 o2
      refine ⟨wipe_off o2, ?_⟩
      have hdx : Hx Dd = some (.lst us) := kx _ _ hpn hd
      refine ht (p.add Dd) σ2 Hx ρ1 s' _ e2 pkx ?_
      dsimp only at fin2
      have fin3 : FinG G W (RelE G) p σ H1 Q (obind (obind (nox (mt ρ1) s') fun c => if c = true then (mbind (nox (fe ρ1)) fun y => if decide (ys.length < 100000) = true then cloop gm mt fe (ds.drop (i + 1)) (wipeL ρ vs) (ys ++ [y]) else mbad) else cloop gm mt fe (ds.drop (i + 1)) (wipeL ρ vs) ys) lstD) := fin2
      unfold nox at fin3
      cases q2 : mt ρ1 s' with
      | exc c ns xs s2 => rw [q2] at fin3; exact False.elim fin3
      | bad => rw [q2] at fin3; exact False.elim fin3
      | ok c s2 =>
        rw [q2] at fin3
        intro b H3 k3 pk3 hb
        obtain rfl : b = c := hb
        have e3 := e2.keep pkx.at k3
        have hd3 : H3 Dd = some (.lst us) := k3 _ _ hpn hdx
        have kk : Keep (p.add Dd) H' H3 := kx.trans k3
        cases b with
        | false =>
          rw [if_neg Bool.false_ne_true]
          have fin4 : FinG G W (RelE G) p σ H1 Q (obind (cloop gm mt fe (ds.drop (i + 1)) (wipeL ρ vs) ys s2) lstD) := fin3
          exact ⟨ys, us, s2, hd3, repL_keep pk'.at kk _ _ ry, e'.keep pk'.at kk, pk3, k'.trans (fun a o n h => kk a o n h), fin4⟩
        | true =>
          rw [if_pos rfl]
          have fin4 : FinG G W (RelE G) p σ H1 Q (obind (obind (nox (fe ρ1) s2) fun y => if decide (ys.length < 100000) = true then cloop gm mt fe (ds.drop (i + 1)) (wipeL ρ vs) (ys ++ [y]) else mbad) lstD) := fin3
          unfold nox at fin4
          refine he (p.add Dd) σ2 H3 ρ1 s2 _ e3 pk3 ?_
          cases q3 : fe ρ1 s2 with
          | exc c ns xs s3 => rw [q3] at fin4; exact False.elim fin4
          | bad => rw [q3] at fin4; exact False.elim fin4
          | ok yd s3 =>
            rw [q3] at fin4
            intro v H4 k4 pk4 rv
            have hd4 : H4 Dd = some (.lst us) := k4 _ _ hpn hd3
            have kk4 : Keep (p.add Dd) H' H4 := kk.trans k4
            have fin5 : FinG G W (RelE G) p σ H1 Q (obind ((if decide (ys.length < 100000) = true then cloop gm mt fe (ds.drop (i + 1)) (wipeL ρ vs) (ys ++ [yd]) else mbad) s3) lstD) := fin4
            by_cases hl : ys.length < 100000
            · rw [if_pos (decide_eq_true hl)] at fin5
              have ho : (p.add Dd).out Dd := .inr rfl
              have ry4 := repL_keep pk'.at kk4 _ _ ry
              refine ⟨us, hd4, by rw [← repL_len ry]; exact Nat.lt_of_lt_of_le hl (by decide), ys ++ [yd], us ++ [v], s3, upd_same, repL_upd ho _ _ (repL_app ry4 ⟨v, [], rfl, rv, rfl⟩), (e'.keep pk'.at kk4).upd ho, pk4.upd ho hpn, fun a o n h => ?_, fin5⟩
              rw [upd_ne (ne_of_none h hD)]
              exact (k'.trans (fun a o n h => kk4 a o n h)) a o n h
            · rw [if_neg (by simp [hl])] at fin5
              exact False.elim fin5
  · have ei : i = ds.length := by omega
    subst ei
    rw [List.drop_length] at fin'
    have fin2 : FinG G W (RelE G) p σ H1 Q (lstD ys s') := fin'
    unfold lstD at fin2
    refine .inl ⟨hst, ?_⟩
    split at fin2
    · exact fin2 _ H' k' pk'.sub ⟨Dd, us, rfl, pk1.free hD, hd, repL_out (p := p.add Dd) (q := p) rfl rfl (fun a o _ h z => h (.inl z)) _ _ ry⟩
    · exact False.elim fin2
theorem de_lc {tg iter elt : Expr} {ifs : List Expr} {scope : Scope} {own : List (Str × Nat)} {wi : TI} {g : TG} {gm : D → Loc → Option Loc} {fi : Loc → M (List D)} {tt : TT} {mt : Loc → M Bool} (hc : X.calm = true) (hN : X.N.Nodup) (hi : DI G X W tg iter wi fi) (ok : BlkOk X.N X.env.scope scope own)
    (hg : ∀ (s : Shared) (H : Hp) (C : Addr) (cl : List (Str × Addr)) (fp : List Addr), DG G (X.blk s H scope (compEnvC scope cl C X.env) fp) (own.map (·.2)) tg g gm) (ht : ∀ (s : Shared) (H : Hp) (C : Addr) (cl : List (Str × Addr)) (fp : List Addr), PTs (X.blk s H scope (compEnvC scope cl C X.env) fp) ifs tt) (htr : RunG G (fun _ _ _ _ => False) RelB tt mt)
    (he : ∀ (s : Shared) (H : Hp) (C : Addr) (cl : List (Str × Addr)) (fp : List Addr), DE G (X.blk s H scope (compEnvC scope cl C X.env) fp) (fun _ _ _ _ => False) elt te fe) (hs : ∀ x, foldedSetIterable iter X.env x = pure x := by intro _; rfl) :
    DE G X W (.ListComp elt [⟨tg, iter, ifs, 0⟩] scope pos) (tLc wi g tt te (own.map (·.2))) (fun ρ => mbind (fi ρ) fun ds => mbind (cloop gm mt fe ds (wipeL ρ (own.map (·.2))) []) lstD) := by
  exact ⟨pe_lc hc hN hi.pi ok (fun s H C cl fp => (hg s H C cl fp).pg) ht (fun s H C cl fp => (he s H C cl fp).pe) hs, run_lc hi.run (hg X.s_0 (fun _ => none) 0 [] []).run htr (he X.s_0 (fun _ => none) 0 [] []).run⟩
end
end Tw

set_option Elab.async false
set_option linter.all false
set_option maxRecDepth 100000
set_option maxHeartbeats 4000000
set_option autoImplicit false
namespace Tw
open PySem L2 PySem.Spec PyProof.Rows
section
variable {K : PySem.W.Frag} {G : Gt} {W : WX} {X : Cx}

/-! ### built-in functions -/
def gcdD (ds : List D) : M D := match ds with
  | [.int a, .int b] => mret (.int ((Nat.gcd a.natAbs b.natAbs : Nat) : Int))
  | _ => mbad
theorem prim_gcd : PrimL G rGcd gcdD := by
  intro W p σ H s xs vs Q pk rs fin
  unfold gcdD at fin
  split at fin
  · obtain ⟨v, _, rfl, rx, w, _, rfl, ry, hz⟩ := rs
    obtain rfl := hz
    exact ⟨_, _, by rw [(show v = _ from rx), (show w = _ from ry)], fin _ H Keep.refl pk rfl⟩
  · exact fin.elim
def intD (ds : List D) : M D := match ds with
  | [.int a] => mret (.int a)
  | [.bl b] => mret (.int (if b then 1 else 0))
  | _ => mbad
theorem prim_int : PrimL G (fun xs H Q => (∃ i, xs = [.int i] ∧ Q (.int i) H) ∨ ∃ k, xs = [.bl k] ∧ Q (.int (if k then 1 else 0)) H) intD := by
  intro W p σ H s xs vs Q pk rs fin
  unfold intD at fin
  split at fin
  · obtain ⟨v, _, rfl, rx, hz⟩ := rs
    obtain rfl := hz
    exact .inl ⟨_, by rw [(show v = _ from rx)], fin _ H Keep.refl pk rfl⟩
  · obtain ⟨v, _, rfl, rx, hz⟩ := rs
    obtain rfl := hz
    exact .inr ⟨_, by rw [(show v = _ from rx)], fin _ H Keep.refl pk rfl⟩
  · exact fin.elim
def strD (ds : List D) : M D := match ds with
  | [.int a] => if decide (a.natAbs.log2 < 1920) = true then mret (.str (toString a)) else mbad
  | _ => mbad
theorem prim_str : PrimL G (fun xs H Q => ∃ i : Int, xs = [.int i] ∧ i.natAbs.log2 < 1920 ∧ Q (.str (toString i)) H) strD := by
  intro W p σ H s xs vs Q pk rs fin
  unfold strD at fin
  split at fin
  · split at fin
    · rename_i h
      obtain ⟨v, _, rfl, rx, hz⟩ := rs
      obtain rfl := hz
      exact ⟨_, by rw [(show v = _ from rx)], of_decide_eq_true h, fin _ H Keep.refl pk rfl⟩
    · exact fin.elim
  · exact fin.elim
def absD (ds : List D) : M D := match ds with
  | [.int a] => mret (.int (if a < 0 then -a else a))
  | _ => mbad
theorem prim_abs : PrimL G (fun xs H Q => ∃ i, xs = [.int i] ∧ Q (.int (if i < 0 then -i else i)) H) absD := by
  intro W p σ H s xs vs Q pk rs fin
  unfold absD at fin
  split at fin
  · obtain ⟨v, _, rfl, rx, hz⟩ := rs
    obtain rfl := hz
    exact ⟨_, by rw [(show v = _ from rx)], fin _ H Keep.refl pk rfl⟩
  · exact fin.elim
def lenD (ds : List D) : M D := match ds with
  | [.lst xs] => mret (.int (xs.length : Nat))
  | [.tup xs] => mret (.int (xs.length : Nat))
  | _ => mbad
theorem prim_len : PrimL G (fun xs H Q => ∃ p ys, xs = [.ref p] ∧ (SqL K H p ys ∨ SqT K H p ys) ∧ Q (.int ys.length) H) lenD := by
  intro W p σ H s xs vs Q pk rs fin
  unfold lenD at fin
  split at fin
  · obtain ⟨v, _, rfl, rx, hz⟩ := rs
    obtain rfl := hz
    obtain ⟨a, us, rfl, h0, h1, q1⟩ := rx
    exact ⟨a, us, rfl, .inl (SqL.of h1), by rw [← repL_len q1]; exact fin _ H Keep.refl pk rfl⟩
  · obtain ⟨v, _, rfl, rx, hz⟩ := rs
    obtain rfl := hz
    obtain ⟨a, us, rfl, h0, h1, q1⟩ := rx
    exact ⟨a, us, rfl, .inr (SqT.of h1), by rw [← repL_len q1]; exact fin _ H Keep.refl pk rfl⟩
  · exact fin.elim
/-- a built-in type's name -/
def tag : D → Option String
  | .non => some "NoneType"
  | .bl _ => some "bool"
  | .int _ => some "int"
  | .str _ => some "str"
  | .lst _ => some "list"
  | .tup _ => some "tuple"
  | _ => none
theorem tag_ok {p : Fm} {H : Hp} {s : Pen} (pk : PenOk G p H s) : ∀ {d : D} {v : V} {n : String}, Rep G p H d v → tag d = some n → TyX K H v (.type n) := by
  intro d v n r e
  cases d <;> cases e
  · rw [(show v = _ from r)]; exact .base .non
  · rw [(show v = _ from r)]; exact .base (.bl _)
  · rw [(show v = _ from r)]; exact .base (.int _)
  · rw [(show v = _ from r)]; exact .base (.str _)
  · obtain ⟨a, us, rfl, h0, h1, q1⟩ := r; exact .base (.lst h1)
  · obtain ⟨a, us, rfl, h0, h1, q1⟩ := r; exact .base (.tup h1)
def subT (a b : String) : Bool := a == b || (a == "bool" && b == "int")
def isiB (ds : List D) : M D := match ds with
  | [x, .ty T] => (match tag x with
    | some a => if decide (kitB a T = some (subT a T)) = true then mret (.bl (subT a T)) else mbad
    | none => mbad)
  | _ => mbad
theorem prim_isiB : PrimL G (rIsi K) isiB := by
  intro W p σ H s xs vs Q pk rs fin
  unfold isiB at fin
  split at fin
  · rename_i x T
    obtain ⟨v, _, rfl, rx, w, _, rfl, ry, hz⟩ := rs
    obtain rfl := hz
    obtain rfl : w = .ty T := ry
    cases h : tag x with
    | none => rw [h] at fin; exact False.elim fin
    | some a =>
      rw [h] at fin
      dsimp only at fin
      split at fin
      · rename_i hk
        exact ⟨v, .ty T, .type a, .type T, _, rfl, .ty T, tag_ok pk rx h, kit_ty (of_decide_eq_true hk), fin _ H Keep.refl pk rfl⟩
      · exact False.elim fin
  · exact False.elim fin

/-! ### a def -/
def startL (nl : Nat) (ds : List D) : Loc := ds.map some ++ List.replicate (nl - ds.length) none
def mdef (nl : Nat) (b : MS) (ds : List D) : M D := fun s => match b (startL nl ds) s with
  | .nx _ s' => .ok .non s'
  | .ret d s' => .ok d s'
  | .exc c ns xs _ s' => .exc c ns xs s'
  | _ => .bad
theorem env_start {p : Fm} {H : Hp} {N : List Str} {ds : List D} {vs : List V} (r : RepL G p H ds vs) : EnvOk G p H (L2.start N vs) (startL N.length ds) := by
  have hl := repL_len r
  refine ⟨by unfold L2.start startL; simp [hl], fun i d h => ?_⟩
  unfold startL at h
  unfold L2.start
  by_cases hi : i < ds.length
  · rw [List.getElem?_append_left (by simpa using hi), List.getElem?_map] at h
    cases q : ds[i]? with
    | none => rw [q] at h; cases h
    | some x =>
      rw [q] at h
      cases h
      obtain ⟨v, h1, h2⟩ := repL_get r q
      exact ⟨v, by rw [List.getElem?_append_left (by rw [List.length_map]; omega), List.getElem?_map, h1]; rfl, h2⟩
  · rw [List.getElem?_append_right (by simpa using hi), List.getElem?_replicate] at h
    split at h <;> cases h
variable {P : Program} {w : World} {mg : Str → Option Value} {base : Heap}
theorem ok_def {x qual : Str} {st : Stmt} {f : Addr} {fd : FuncData} {N ps : List Str} {k n : Nat} {b : MS} (F : Fun K x qual st f fd) (S : FnScope N ps (defScope st)) (hn : ps.length = n)
    (hb : ∀ (cdv : Value) (A : Around) (outer : List Env) (s : Shared) (H : Hp) (E : XK), Room k (A.deeper (envOfC qual (defScope st) s.heap.objs.size f cdv)) →
      ∃ t, DSs G (cxOf (L2.CX P w) P w K mg base N qual (defScope st) f cdv A outer s H E) (fun c d _ H' => E c d H') (defBody st) t b) :
    FnOk P w K mg base (L2.CX P w) (k + 1) f fd ps (spM G n (mdef N.length b)) := by
  refine F.okX S (fun vs H Q E h => by rw [h.1, hn]) fun cdv A outer s H vs Q E hr h => ?_
  obtain ⟨t, dt⟩ := hb cdv A outer s H E hr
  refine ⟨t, dt.ps, ?_⟩
  obtain ⟨_, p, ds, s1, rs, pk, fin⟩ := h
  refine dt.run p _ H (startL N.length ds) s1 _ (env_start rs) pk ?_
  unfold mdef at fin
  cases q : b (startL N.length ds) s1 with
  | nx ρ s' => rw [q] at fin; exact fun σ' H' k pk' _ => fin _ H' k pk' rfl
  | ret d s' => rw [q] at fin; exact fun v H' k pk' rd => fin v H' k pk' rd
  | exc c ns xs ρ s' => rw [q] at fin; exact fun dd σ' H' k pk' _ x => fin dd H' k pk' x
  | bk ρ s' => rw [q] at fin; exact False.elim fin
  | ct ρ s' => rw [q] at fin; exact False.elim fin
  | bad => rw [q] at fin; exact False.elim fin

/-! ### raise C() of an own class whose __init__ does nothing -/
def spNo : Sp := fun vs H Q _ => ∃ a, vs = [.ref a] ∧ Q .non H
theorem ok_noinit {qual : Str} {st : Stmt} {f : Addr} {fd : FuncData} {pos : Pos} (F : Fun K "__init__" qual st f fd) (S : FnScope ["self"] ["self"] (defScope st)) (hb : defBody st = [.Pass pos]) : FnOk P w K mg base (L2.CX P w) 1 f fd ["self"] spNo := by
  refine F.okX S (fun vs H Q E h => by obtain ⟨a, rfl, _⟩ := h; rfl) fun cdv A outer s H vs Q E hr h => ?_
  obtain ⟨a, rfl, q⟩ := h
  exact ⟨_, by rw [hb]; exact pss_one ps_pass, q⟩
theorem no_dict {pins : List (Addr × Obj)} {σ : L2.St} {H1 H2 : Hp} {hp hp2 h2 : Heap} {g1 g2 : Array GenState} {d1 d2 : Drawn} {t1 t2 : Nat} {os1 os2 : OsState} {a C : Addr} (I1 : Inv X pins σ H1 ⟨hp, g1, d1, t1, os1⟩)
    (ha : hp.objs.size ≤ a) (k : ∀ b o, hp.get? b = some o → hp2.get? b = some o) (un : Un (frs X.stack) [] (upd H1 a (exo a C none)) H2 hp2 h2) (hok : HOk X.prog X.w H2 h2) (ho : os2 = os1) (hb : AllBare g2) (ea : H2 a = some (exo a C none)) :
    ∃ (t0 : Addr) (Gp : Heap), Inv X pins σ (del H2 a) ⟨Gp, g2, d2, t2, os2⟩ ∧ (∀ b o, Gp.get? b = some o → h2.get? b = some o) ∧ Gp.get? a = none ∧
      h2.get? a = some ({ cls := .ref C, dict := none, data := .fields #[.ref t0, .none, .none, .none, .bool false, .none] } : Obj) := by
  obtain ⟨t0, hoe⟩ := exo_at hok ea
  have hn : H1 a = none := I1.hok.fresh ha
  obtain ⟨Gp, r1, r2⟩ := restrict h2 fun b => decide (b ≠ a)
  have gk : ∀ b, b ≠ a → Gp.get? b = h2.get? b := fun b z => r1 b (decide_eq_true z)
  have ge : Gp.get? a = none := r2 a (by simp)
  have nha : ∀ {b : Addr} {o : Obj}, hp.get? b = some o → b ≠ a := fun {b o} z => Nat.ne_of_lt (Nat.lt_of_lt_of_le (Heap.lt_size z) ha)
  have up1 : ∀ {b : Addr}, b ≠ a → H1 b = none → upd H1 a (exo a C none) b = none := fun {b} z n => (upd_ne z).trans n
  have U : Un (frs X.stack) [] H1 (del H2 a) hp Gp := by
    refine ⟨fun b o z n hf hx => (gk b (nha z)).trans (un.keep b o (k b o z) (up1 (nha z) n) hf hx), fun b o z n hf hx => ?_, fun b o z n hx => (del_ne (nha z)).trans (un.free b o (k b o z) (up1 (nha z) n) hx), fun b o z hx => ?_, fun b xs z => ?_, fun b o v z => ?_, fun b ps z => ?_⟩
    · obtain ⟨sl, e⟩ := un.slot b o (k b o z) (up1 (nha z) n) hf hx
      exact ⟨sl, (gk b (nha z)).trans e⟩
    · obtain ⟨o', e⟩ := un.there b o (k b o z) hx
      exact ⟨o', (gk b (nha z)).trans e⟩
    · exact (del_ne (ne_of_none z hn)).trans (un.tups b xs ((upd_ne (ne_of_none z hn)).trans z))
    · exact (del_ne (ne_of_none z hn)).trans (un.frzs b o v ((upd_ne (ne_of_none z hn)).trans z))
    · obtain ⟨more, e⟩ := un.tbls b ps ((upd_ne (ne_of_none z hn)).trans z)
      exact ⟨more, (del_ne (ne_of_none z hn)).trans e⟩
  have hok3 : HOk X.prog X.w (del H2 a) Gp := fun b o z => by
    have hba : b ≠ a := fun e => by
      rw [e, del_same] at z
      cases z
    rw [del_ne hba] at z
    have noa : ∀ {c : Addr}, H2 c = some (.own b) → c ≠ a := fun {c} hc => at_ne ea hc exo_own
    refine (hok b o z).stay (fun c v hc y => ?_) (fun c hc => (del_ne (noa hc)).trans hc) fun c xs hc => (del_ne (at_ne ea hc exo_tup)).trans hc
    have hca : c ≠ a := hc.elim (fun e => by rw [e]; exact hba) noa
    exact (gk c hca).trans y
  refine ⟨t0, Gp, I1.call' (ch := []) ho U hok3 hb (fun b z => absurd z (by simp)), fun b o z => ?_, ge, hoe⟩
  by_cases hba : b = a
  · rw [hba, ge] at z
    cases z
  · exact (gk b hba).symm.trans z
theorem pmk_no {x : Str} {C fI : Addr} {fd : FuncData} {p0 pos : Pos} (T : OexC X.K C) (iC : PySem.W.findIn X.K (.ref C) "__init__" = some (some (.ref fI))) (tI : PySem.W.typeIn X.K (.ref fI) = some (.type "function"))
    (F1 : FnOk X.prog X.w X.K X.mg X.base (L2.CX X.prog X.w) 1 fI fd ["self"] spNo) (hr : Room 2 X.A) (hb : Binds X.K fd ["self"] []) (hg : Gl X x) (hm : X.mg x = some (.ref C)) (hdb : (x == ("__debug__" : Str)) = false := by decide) :
    PMk X (.Call (.Name x p0) [] [] pos) (fun _ H Q => ∀ H', (∀ b o, H b = some o → H' b = some o) → Q (.ref C) none H') := by
  intro pins s σ H Q I h
  obtain ⟨nm, q, N, bs, bm, sn, sub, ab, col, dd, k0, k1, k2, k3, k5, hC, hbm⟩ := T.cls
  refine wpAny_Call_Name_kw (ld_glob I hg hm (PySem.W.callWith_K0 I.kIn T.kC ?_) hdb)
  show wpAny _ _ (call (.ref C) []) _ _ _
  obtain ⟨hp, g, dr, tk, os⟩ := s
  have hsz : hp.objs.size ≤ hp.objs.size + 1 := Nat.le_succ _
  have hn : H (hp.objs.size + 1) = none := I.hok.fresh hsz
  have kk : ∀ b o, hp.get? b = some o → ((hp.push (PySem.W.kdv_tup [])).push (PySem.HandSPX.excO C hp.objs.size)).get? b = some o := fun b o e => Heap.get?_push_of_some _ (Heap.get?_push_of_some _ e)
  have hget : ((hp.push (PySem.W.kdv_tup [])).push (PySem.HandSPX.excO C hp.objs.size)).get? (hp.objs.size + 1) = some (PySem.HandSPX.excO C hp.objs.size) := by heap_get
  have I2 : Inv X pins σ (upd H (hp.objs.size + 1) (exo (hp.objs.size + 1) C none)) ⟨(hp.push (PySem.W.kdv_tup [])).push (PySem.HandSPX.excO C hp.objs.size), g, dr, tk, os⟩ :=
    I.laid (t' := tk) (a := hp.objs.size + 1) (o := exo (hp.objs.size + 1) C none) (h' := (hp.push (PySem.W.kdv_tup [])).push (PySem.HandSPX.excO C hp.objs.size)) kk hsz (exo_ok hget)
  have hq : spNo [V.ref (hp.objs.size + 1)] (upd H (hp.objs.size + 1) (exo (hp.objs.size + 1) C none)) (fun v H2 => v = .non ∧ H2 = upd H (hp.objs.size + 1) (exo (hp.objs.size + 1) C none)) (fun _ _ _ => False) := ⟨_, rfl, rfl, rfl⟩
  have hbb := hb ⟨(hp.push (PySem.W.kdv_tup [])).push (PySem.HandSPX.excO C hp.objs.size), g, dr, tk, os⟩ [Value.ref (hp.objs.size + 1)] I2.kIn rfl
  rw [List.append_nil] at hbb
  refine wpAny_call (PySem.HandSPX.call_own F.excBase_ValueError (fun Y => PySem.HandSPX.refsVE_contains Y bm hbm) (I.kIn _ _ hC) (PySem.W.looks_findIn I.kIn iC) (fun self => PySem.W.bind_fn I.kIn self tI) (by show 0 ≤ sizeLine; exact Nat.zero_le _)
    (codeAny_mono (F1.run _ X.stack _ _ ⟨[Value.ref (hp.objs.size + 1)], []⟩ [Value.ref (hp.objs.size + 1)] [V.ref (hp.objs.size + 1)] _ (fun _ _ _ => False) (hr.make C [] []) (I2.env0.make C [] []) hbb (.cons rfl .nil) hq) fun r s' hq' => ?_))
  cases r with
  | error er => exact False.elim (by obtain ⟨_, _, _, _, _, _, _, _, _, _, _, _, z⟩ := hq'; exact z)
  | ok fl =>
    cases fl with
    | ret u =>
      obtain ⟨v, H2, os2, bare2, un2, hok2, rv, ev, eH⟩ := hq'
      subst ev eH
      obtain ⟨h2, g2, d2, t2, os'⟩ := s'
      obtain ⟨t0, Gp, J, kG, ge, hoe⟩ := no_dict (d2 := d2) (t2 := t2) I hsz kk un2 hok2 os2 bare2 upd_same
      refine ⟨rv, hp.objs.size + 1, _, _, ⟨Gp, g2, d2, t2, os'⟩, _, .ref C, none, rfl, J, kG, ge, hoe, ⟨rfl, rfl⟩, rfl, rfl, del_same, rfl, bare2, raises_own T.exC T.tyC, h _ fun b o e => ?_⟩
      rw [del_ne (ne_of_none e hn), upd_ne (ne_of_none e hn)]
      exact e
    | next => exact False.elim hq'
    | brk => exact False.elim hq'
    | cont => exact False.elim hq'
theorem PenOk.mono {p : Fm} {H H' : Hp} {s : Pen} (h : PenOk G p H s) (k : ∀ b o, H b = some o → H' b = some o) : PenOk G p H' s := by
  refine ⟨fun b kd eb => ?_, fun x c dx e => ?_, fun b hb => ?_⟩
  · rcases h.1 b kd eb with ⟨e1, e2⟩ | ⟨c, e1, h0, h1, h2⟩
    · exact .inl ⟨e1, k _ _ e2⟩
    · exact .inr ⟨c, e1, h0, k _ _ h1, k _ _ h2⟩
  · obtain ⟨vs, h1, hl, h2⟩ := h.2.1 x c dx e
    exact ⟨vs, k _ _ h1, hl, repL_keep trivial (fun a o _ h => k a o h) _ _ h2⟩
  · obtain ⟨o, h1⟩ := h.2.2 b hb
    exact ⟨o, k _ _ h1⟩
theorem ds_raise0 {c : Nat} {e : Expr} {pos : Pos} (hc : X.calm = true) (tk : Takes X W) (hp : PMk X e (fun _ H Q => ∀ H', (∀ b o, H b = some o → H' b = some o) → Q (.ref (G.cls c)) none H')) :
    DS G X W (.Raise (some e) none pos) (fun _ σ H => ∀ H', (∀ b o, H b = some o → H' b = some o) → W (.ref (G.cls c)) none σ H') (fun ρ s => .exc c [] [] ρ s) := by
  refine ⟨ps_raise hc tk hp, fun p σ H ρ s Z e pk fin H' k => ?_⟩
  have kp : Keep p H H' := fun a o _ h => k a o h
  have pk' : PenOk G p H' s := pk.mono k
  exact fin none σ H' kp pk' (e.keep pk.at kp) ⟨[], rfl, .inl ⟨rfl, rfl⟩⟩
end
end Tw

set_option Elab.async false
set_option linter.all false
set_option maxRecDepth 100000
set_option maxHeartbeats 4000000
set_option autoImplicit false
namespace Tw
open PySem L2 PySem.Spec PyProof.Rows
section
variable {K : PySem.W.Frag} {G : Gt} {W : WX} {X : Cx}
/-! ### try .. except -/
def sTry (mb : MS) (mt : Nat → Option Bool) (hm : Nat → List Str → List D → MS) : MS := fun ρ s => match mb ρ s with
  | .exc c ns xs ρ' s' => (match mt c with
    | some true => hm c ns xs ρ' s'
    | some false => .exc c ns xs ρ' s'
    | none => .bad)
  | .nx ρ' s' => .nx ρ' s'
  | .ret d s' => .ret d s'
  | .bk ρ' s' => .bk ρ' s'
  | .ct ρ' s' => .ct ρ' s'
  | .bad => .bad
abbrev W0 : WX := fun _ _ _ _ => False
/-- a block's own reading, within a try; within an except suite -/
def tOwn (X : Cx) (body : List Stmt) (W' : WX) : TS := fun Z σ H => ∀ (pn : List (Addr × Obj)) (xe : Value → Shared → Prop), Takes (X.tr pn xe) W' → PassesOwn (model X.prog X.w) X.A X.env xe →
  ∀ (pins : List (Addr × Obj)) (s : Shared), L2.Inv (X.tr pn xe) pins σ H s → wpAny (model X.prog X.w) X.A (execs body X.env) (SP (X.tr pn xe) pins Z) xe s
def tSui (X : Cx) (su : List Stmt) (a : Addr) (cls : Value) (d : Option Addr) : TS := fun Z σ H => ∀ (oe : Obj) (pn : List (Addr × Obj)), Zc cls d oe → (∃ vs, oe.data = .fields vs) →
  ∀ (pins : List (Addr × Obj)) (s : Shared), L2.Inv (X.suite a ((a, oe) :: pn)) pins σ H s → wpAny (model X.prog X.w) (X.suite a ((a, oe) :: pn)).A (execs su X.env) (SP (X.suite a ((a, oe) :: pn)) pins Z) (fun _ _ => False) s
variable {x n : Str} {T : Nat} {body suite : List Stmt} {b₀ : Stmt} {np pos pos' : Pos} {mb : MS} {mt : Nat → Option Bool} {hm : Nat → List Str → List D → MS}
theorem own_run (hb : ∀ (W' : WX) (pn : List (Addr × Obj)) (xe : Value → Shared → Prop), Takes (X.tr pn xe) W' → PassesOwn (model X.prog X.w) X.A X.env xe → ∃ t, DSs G (X.tr pn xe) W' body t mb) (W' : WX) : RunS G W' (tOwn X body W') mb := by
  intro p σ H ρ s Z e pk fin pn xe tk po pins s1 I
  obtain ⟨t, dt⟩ := hb W' pn xe tk po
  exact dt.ps.run pins s1 σ H Z I (dt.run p σ H ρ s Z e pk fin)
theorem ds_try_only (hs : X.stack = X.env :: X.outer) (hf : X.env.frame = some X.env.locals) (hc : Names X x (.ref (G.cls T))) (tk : Takes X W) (hmt : ∀ c b, mt c = some b → PySem.W.exmOne X.K (.ref (G.cls c)) (.ref (G.cls T)) = some b)
    (hb : ∀ (W' : WX) (pn : List (Addr × Obj)) (xe : Value → Shared → Prop), Takes (X.tr pn xe) W' → PassesOwn (model X.prog X.w) X.A X.env xe → ∃ t, DSs G (X.tr pn xe) W' body t mb)
    (hsu : ∀ (a : Addr) (oe : Obj) (c : Nat) (ns : List Str) (xs : List D) (dd : Option Addr) (pn : List (Addr × Obj)), mt c = some true → Zc (.ref (G.cls c)) dd oe → (∃ vs, oe.data = .fields vs) → ∃ t, DSs G (X.suite a ((a, oe) :: pn)) W0 (b₀ :: suite) t (hm c ns xs)) :
    ∃ t, DS G X W (.Try body [.ExceptHandler (some (.Name x np)) none (b₀ :: suite) pos'] [] [] pos) t (sTry mb mt fun c ns xs ρ s => match hm c ns xs ρ s with | .exc _ _ _ _ _ => .bad | o => o) := by
  refine ⟨_, ps_try_only (tb := tOwn X body) (ts := tSui X (b₀ :: suite)) hs hf hc tk (fun W' pn xe tk' po => ⟨fun pins s σ H Z I h => h pn xe tk' po pins s I⟩) (fun a oe cls d pn hz hv => ⟨fun pins s σ H Z I h => h oe pn hz hv pins s I⟩), ?_⟩
  intro p σ H ρ s Z e pk fin
  refine own_run hb _ p σ H ρ s Z e pk ?_
  unfold sTry at fin
  cases q : mb ρ s with
  | nx ρ' s' => rw [q] at fin; exact fin
  | ret d s' => rw [q] at fin; exact fin
  | bk ρ' s' => rw [q] at fin; exact fin
  | ct ρ' s' => rw [q] at fin; exact fin
  | bad => rw [q] at fin; exact fin
  | exc c ns xs ρ' s' =>
    rw [q] at fin
    dsimp only at fin
    cases q2 : mt c with
    | none => rw [q2] at fin; exact False.elim fin
    | some b =>
      rw [q2] at fin
      intro dd σ' H' k' pk' e' x'
      refine ⟨b, hmt c b q2, fun hbt => ?_, fun hbf => ?_⟩
      · subst hbt
        intro a ha oe pn hz hv pins s1 I
        obtain ⟨t, dt⟩ := hsu a oe c ns xs dd pn q2 hz hv
        refine dt.ps.run pins s1 σ' H' Z I (dt.run p σ' H' ρ' s' Z e' pk' ?_)
        dsimp only at fin
        cases q3 : hm c ns xs ρ' s' with
        | exc c2 ns2 xs2 ρ2 s2 => rw [q3] at fin; exact False.elim fin
        | nx ρ2 s2 => rw [q3] at fin; exact fun σ2 H2 k2 => fin σ2 H2 (k'.trans k2)
        | ret d s2 => rw [q3] at fin; exact fun v H2 k2 => fin v H2 (k'.trans k2)
        | bk ρ2 s2 => rw [q3] at fin; exact fun σ2 H2 k2 => fin σ2 H2 (k'.trans k2)
        | ct ρ2 s2 => rw [q3] at fin; exact fun σ2 H2 k2 => fin σ2 H2 (k'.trans k2)
        | bad => rw [q3] at fin; exact False.elim fin
      · subst hbf
        exact fin dd σ' H' k' pk' e' x'

mutual
def noErr : D → Bool
  | .err _ _ _ => false
  | .lst xs => noErrL xs
  | .tup xs => noErrL xs
  | .ins _ _ xs => noErrL xs
  | _ => true
def noErrL : List D → Bool
  | [] => true
  | d :: ds => noErr d && noErrL ds
end
/-! data without an exception is the same whatever is handled -/
mutual
theorem rep_swap {G' : Gt} {p : Fm} {H : Hp} (hc : G'.cls = G.cls) : ∀ (d : D) (v : V), noErr d = true → Rep G p H d v → Rep G' p H d v
  | .non, _, _, h => h
  | .bl _, _, _, h => h
  | .int _, _, _, h => h
  | .str _, _, _, h => h
  | .ty _, _, _, h => h
  | .cls n, v, _, h => by show v = .ref (G'.cls n); rw [hc]; exact h
  | .pen, _, _, h => h
  | .bag, _, _, h => h
  | .self, _, _, h => h
  | .lst ds, v, e, h => by
    obtain ⟨a, vs, e1, q0, q1, q2⟩ := h
    exact ⟨a, vs, e1, q0, q1, repL_swap hc ds vs e q2⟩
  | .tup ds, v, e, h => by
    obtain ⟨a, vs, e1, q0, q1, q2⟩ := h
    exact ⟨a, vs, e1, q0, q1, repL_swap hc ds vs e q2⟩
  | .ins n ns ds, v, e, h => by
    obtain ⟨a, dx, vs, e1, q0, q1, q3, q2⟩ := h
    exact ⟨a, dx, vs, e1, q0, by rw [hc]; exact q1, q3, repL_swap hc ds vs e q2⟩
  | .err _ _ _, _, e, _ => by cases e
theorem repL_swap {G' : Gt} {p : Fm} {H : Hp} (hc : G'.cls = G.cls) : ∀ (ds : List D) (vs : List V), noErrL ds = true → RepL G p H ds vs → RepL G' p H ds vs
  | [], _, _, h => h
  | d :: ds, vs, e, h => by
    obtain ⟨v, r, e1, q1, q2⟩ := h
    have e' : (noErr d && noErrL ds) = true := e
    rw [Bool.and_eq_true] at e'
    exact ⟨v, r, e1, rep_swap hc d v e'.1 q1, repL_swap hc ds r e'.2 q2⟩
end
mutual
theorem noErr_of {p : Fm} {H : Hp} (hn : G.err = none) : ∀ (d : D) (v : V), Rep G p H d v → noErr d = true
  | .non, _, _ => rfl
  | .bl _, _, _ => rfl
  | .int _, _, _ => rfl
  | .str _, _, _ => rfl
  | .ty _, _, _ => rfl
  | .cls _, _, _ => rfl
  | .pen, _, _ => rfl
  | .bag, _, _ => rfl
  | .self, _, _ => rfl
  | .lst ds, v, h => by
    obtain ⟨a, vs, e1, q0, q1, q2⟩ := h
    exact noErrL_of hn ds vs q2
  | .tup ds, v, h => by
    obtain ⟨a, vs, e1, q0, q1, q2⟩ := h
    exact noErrL_of hn ds vs q2
  | .ins n ns ds, v, h => by
    obtain ⟨a, dx, vs, e1, q0, q1, q3, q2⟩ := h
    exact noErrL_of hn ds vs q2
  | .err _ _ _, _, h => by
    obtain ⟨a, dd, vs, _, q, _⟩ := h
    rw [hn] at q
    cases q
theorem noErrL_of {p : Fm} {H : Hp} (hn : G.err = none) : ∀ (ds : List D) (vs : List V), RepL G p H ds vs → noErrL ds = true
  | [], _, _ => rfl
  | d :: ds, vs, h => by
    obtain ⟨v, r, e1, q1, q2⟩ := h
    show (noErr d && noErrL ds) = true
    rw [noErr_of hn d v q1, noErrL_of hn ds r q2]
    all_goals rfl
end
def cleanD (o : Option D) : Option D := match o with
  | some d => if noErr d = true then some d else none
  | none => none
def clean (ρ : Loc) : Loc := ρ.map cleanD
theorem EnvOk.clean {G' : Gt} {p : Fm} {H : Hp} {σ : L2.St} {ρ : Loc} (hc : G.cls = G'.cls) (e : EnvOk G' p H σ ρ) : EnvOk G p H σ (clean ρ) := by
  refine ⟨by unfold Tw.clean; rw [List.length_map]; exact e.1, fun i d h => ?_⟩
  unfold Tw.clean at h
  rw [List.getElem?_map] at h
  cases q : ρ[i]? with
  | none => rw [q] at h; cases h
  | some o =>
    rw [q] at h
    cases o with
    | none => cases h
    | some x =>
      have h : some (if noErr x = true then some x else none) = some (some d) := h
      by_cases hx : noErr x = true
      · rw [if_pos hx] at h
        cases h
        obtain ⟨v, h1, h2⟩ := e.2 i d q
        exact ⟨v, h1, rep_swap hc d v hx h2⟩
      · rw [if_neg hx] at h; cases h
theorem EnvOk.err {p : Fm} {H : Hp} {σ : L2.St} {ρ : Loc} {G' : Gt} (hn : G.err = none) (hc : G'.cls = G.cls) (e : EnvOk G p H σ ρ) : EnvOk G' p H σ ρ :=
  ⟨e.1, fun i d h => let ⟨v, h1, h2⟩ := e.2 i d h; ⟨v, h1, rep_swap hc d v (noErr_of hn d v h2) h2⟩⟩
theorem EnvOk.unset {p : Fm} {H : Hp} {σ : L2.St} {ρ : Loc} {i : Nat} (e : EnvOk G p H σ ρ) : EnvOk G p H (σ.set i none) (ρ.set i none) := by
  refine ⟨by simp [e.1], fun j x hx => ?_⟩
  rw [List.getElem?_set] at hx
  by_cases hij : i = j
  · subst hij
    simp only [if_true] at hx
    split at hx <;> cases hx
  · rw [if_neg hij] at hx
    obtain ⟨u, h1, h2⟩ := e.2 j x hx
    exact ⟨u, by rw [List.getElem?_set, if_neg hij]; exact h1, h2⟩
/-- behind the suite of «except X as n» -/
def backOf (i : Nat) (o : OutS) : OutS := match o with
  | .nx ρ s => .nx (clean (ρ.set i none)) s
  | .ret d s => if noErr d = true then .ret d s else .bad
  | .bk ρ s => .bk (clean (ρ.set i none)) s
  | .ct ρ s => .ct (clean (ρ.set i none)) s
  | _ => .bad
abbrev Gt.at (G : Gt) (a : Addr) (c : Nat) (dd : Option Addr) : Gt := ⟨G.cls, some (a, c, dd)⟩
theorem ds_try_as {i : Nat} {nf : Nat → Bool} {hs1 : Nat → MS} (hn : G.err = none) (hs : X.stack = X.env :: X.outer) (hf : X.env.frame = some X.env.locals) (hN : X.N.Nodup) (hi : X.N[i]? = some n) (hln : X.env.kindOf n = some .local) (hc : Names X x (.ref (G.cls T))) (tk : Takes X W) (hmt : ∀ c b, mt c = some b → PySem.W.exmOne X.K (.ref (G.cls c)) (.ref (G.cls T)) = some b)
    (hb : ∀ (W' : WX) (pn : List (Addr × Obj)) (xe : Value → Shared → Prop), Takes (X.tr pn xe) W' → PassesOwn (model X.prog X.w) X.A X.env xe → ∃ t, DSs G (X.tr pn xe) W' body t mb)
    (hsu : ∀ (a : Addr) (oe : Obj) (c : Nat) (dd : Option Addr) (pn : List (Addr × Obj)), mt c = some true → (nf c = true → dd = none) → Zc (.ref (G.cls c)) dd oe → (∃ vs, oe.data = .fields vs) → ∃ t, DSs (G.at a c dd) (X.suite a ((a, oe) :: pn)) W0 (b₀ :: suite) t (hs1 c)) :
    ∃ t, DS G X W (.Try body [.ExceptHandler (some (.Name x np)) (some n) (b₀ :: suite) pos'] [] [] pos) t (sTry mb mt fun c ns xs ρ s => if (nf c && !ns.isEmpty) = true then .bad else backOf i (hs1 c (ρ.set i (some (.err c ns xs))) s)) := by
  refine ⟨_, ps_try_as (tb := tOwn X body) (ts := tSui X (b₀ :: suite)) hs hf hN hi hln hc tk (fun W' pn xe tk' po => ⟨fun pins s σ H Z I h => h pn xe tk' po pins s I⟩) (fun a oe cls d pn hz hv => ⟨fun pins s σ H Z I h => h oe pn hz hv pins s I⟩), ?_⟩
  intro p σ H ρ s Z e pk fin
  refine own_run hb _ p σ H ρ s Z e pk ?_
  unfold sTry at fin
  cases q : mb ρ s with
  | nx ρ' s' => rw [q] at fin; exact fin
  | ret d s' => rw [q] at fin; exact fin
  | bk ρ' s' => rw [q] at fin; exact fin
  | ct ρ' s' => rw [q] at fin; exact fin
  | bad => rw [q] at fin; exact fin
  | exc c ns xs ρ' s' =>
    rw [q] at fin
    dsimp only at fin
    cases q2 : mt c with
    | none => rw [q2] at fin; exact False.elim fin
    | some b =>
      rw [q2] at fin
      intro dd σ' H' k' pk' e' x'
      refine ⟨b, hmt c b q2, fun hbt => ?_, fun hbf => ?_⟩
      · subst hbt
        intro a ha oe pn hz hv pins s1 I
        obtain ⟨us, rus, xk⟩ := x'
        by_cases hnf : (nf c && !ns.isEmpty) = true
        · dsimp only at fin
          rw [if_pos hnf] at fin
          exact False.elim fin
        dsimp only at fin
        rw [if_neg hnf] at fin
        have hdd : nf c = true → dd = none := fun z => by
          rcases xk with z2 | ⟨b, gs, e0, _⟩
          · exact z2.2
          · refine absurd ?_ hnf
            rw [z]
            cases ns with
            | nil => exact absurd rfl e0
            | cons _ _ => rfl
        obtain ⟨t, dt⟩ := hsu a oe c dd pn q2 hdd hz hv
        have rx : Rep (G.at a c dd) p H' (.err c ns xs) (.ref a) := ⟨a, dd, us, rfl, rfl, repL_swap (G := G) (G' := G.at a c dd) rfl xs us (noErrL_of hn xs us rus) rus, xk⟩
        refine dt.ps.run pins s1 _ H' _ I (dt.run p _ H' (ρ'.set i (some (.err c ns xs))) s' _ ((EnvOk.err (G' := G.at a c dd) hn rfl e').set rx) pk' ?_)
        cases q3 : hs1 c (ρ'.set i (some (.err c ns xs))) s' with
        | exc c2 ns2 xs2 ρ2 s2 => rw [q3] at fin; exact False.elim fin
        | nx ρ2 s2 => rw [q3] at fin; exact fun σ2 H2 k2 pk2 e2 => fin _ H2 (k'.trans k2) pk2 (EnvOk.clean (G := G) (G' := G.at a c dd) rfl e2.unset)
        | bk ρ2 s2 => rw [q3] at fin; exact fun σ2 H2 k2 pk2 e2 => fin _ H2 (k'.trans k2) pk2 (EnvOk.clean (G := G) (G' := G.at a c dd) rfl e2.unset)
        | ct ρ2 s2 => rw [q3] at fin; exact fun σ2 H2 k2 pk2 e2 => fin _ H2 (k'.trans k2) pk2 (EnvOk.clean (G := G) (G' := G.at a c dd) rfl e2.unset)
        | ret d s2 =>
          rw [q3] at fin
          have fin : FinS G W p H Z (if noErr d = true then .ret d s2 else .bad) := fin
          by_cases hd : noErr d = true
          · rw [if_pos hd] at fin
            exact fun v H2 k2 pk2 rd => fin v H2 (k'.trans k2) pk2 (rep_swap (G := G.at a c dd) (G' := G) rfl d v hd rd)
          · rw [if_neg hd] at fin; exact False.elim fin
        | bad => rw [q3] at fin; exact False.elim fin
      · subst hbf
        exact fin dd σ' H' k' pk' e' x'
/-- isinstance(n, C), n the exception that is handled, without fields -/
def isiE (ans : Nat → Option Bool) (d : D) : M D := match d with
  | .err c _ _ => (match ans c with
    | some b => mret (.bl b)
    | none => mbad)
  | _ => mbad
theorem de_isE {a : Addr} {oe : Obj} {pn : List (Addr × Obj)} {c T' : Nat} {ans : Nat → Option Bool} {p0 : Pos} {xn cn : Str} {p1 p2 : Pos} {i : Nat} (C : ExcC X.K (G.cls c)) (hz : Zc (.ref (G.cls c)) none oe) (hf : ∃ vs, oe.data = .fields vs)
    (ha : ∀ b, ans c = some b → PySem.W.kitOne X.K (.ref (G.cls c)) (.ref (G.cls T')) = some b)
    (hg : Gl (X.suite a ((a, oe) :: pn)) "isinstance") (hmI : X.mg "isinstance" = none) (hgc : Gl (X.suite a ((a, oe) :: pn)) cn) (hmc : X.mg cn = some (.ref (G.cls T')))
    (hx : DE (G.at a c none) (X.suite a ((a, oe) :: pn)) W0 (.Name xn p1) (tVar i) (mvar i)) (hdc : (cn == ("__debug__" : Str)) = false := by decide) :
    DE (G.at a c none) (X.suite a ((a, oe) :: pn)) W0 (.Call (.Name "isinstance" p0) [.Name xn p1, .Name cn p2] [] pos) (tCB (rIsE X.K (G.cls c) a) (tCons (tVar i) (tCons (tC (.ref (G.cls T'))) tNil))) (fun ρ => mbind (mvar i ρ) (isiE ans)) := by
  refine ⟨pe_callB (call_isE C hz hf) hg hmI (by decide +kernel) (pa_cons hx.pe (pa_cons (pe_glob hgc hmc rfl hdc) pa_nil)), fun p σ H ρ s Q e pk fin => ?_⟩
  refine hx.run p σ H ρ s _ e pk (fin.step fun d s1 v H1 k1 pk1 rd fin1 => ?_)
  unfold isiE at fin1
  cases d <;> first
    | exact False.elim fin1
    | skip
  rename_i c2 ns xs
  obtain ⟨a2, dd, us, rfl, q0, _⟩ := rd
  have q0' : (a, c, (none : Option Addr)) = (a2, c2, dd) := Option.some.inj q0
  obtain ⟨rfl, q1⟩ := Prod.mk.inj q0'
  obtain ⟨rfl, rfl⟩ := Prod.mk.inj q1
  dsimp only at fin1
  cases q : ans c with
  | none => rw [q] at fin1; exact False.elim fin1
  | some b =>
    rw [q] at fin1
    exact ⟨.ref (G.cls T'), .ref (G.cls T'), b, rfl, fun u r => r, ha b q, fin1 _ H1 Keep.refl pk1 rfl⟩
end
end Tw

set_option Elab.async false
set_option linter.all false
set_option maxRecDepth 100000
set_option maxHeartbeats 4000000
set_option autoImplicit false
namespace Tw
open PySem L2 PySem.Spec PyProof.Rows
section
variable {K : PySem.W.Frag} {G : Gt} {W : WX} {X : Cx}
/-! ### the pen's items -/
inductive Fl where
  | cells | next | digits | rest | seed | turn
def Fl.key : Fl → Str
  | .cells => "cells"
  | .next => "next"
  | .digits => "digits"
  | .rest => "rest"
  | .seed => "seed"
  | .turn => "turn"
def Pen.get (s : Pen) : Fl → D
  | .cells => .lst (s.cells.map D.int)
  | .next => .int s.next
  | .digits => .int s.digits
  | .rest => .int s.rest
  | .seed => .int s.seed
  | .turn => .int s.turn
def Pen.put (s : Pen) (f : Fl) (d : D) : Option Pen := match f, d with
  | .next, .int i => if decide (0 ≤ i) = true then some { s with next := i.toNat } else none
  | .digits, .int i => some { s with digits := i }
  | .rest, .int i => some { s with rest := i }
  | .seed, .int i => some { s with seed := i }
  | .turn, .int i => some { s with turn := i }
  | _, _ => none
theorem kne {a b : Str} (h : ¬ a = b) : ¬ (Sum.inr a : Key) = Sum.inr b := fun z => h (Sum.inr.inj z)
theorem val_pen (c : Addr) (s : Pen) (f : Fl) : valV (penKV c s) (Sum.inr f.key : Key) = some (match f with | .cells => .ref c | .next => .int s.next | .digits => .int s.digits | .rest => .int s.rest | .seed => .int s.seed | .turn => .int s.turn) := by
  cases f <;> rfl
theorem put_pen (c : Addr) (s s' : Pen) (f : Fl) (i : Int) (h : s.put f (.int i) = some s') : putK (penKV c s) (Sum.inr f.key : Key) (.int i) = penKV c s' := by
  cases f
  · cases h
  · have h : (if decide (0 ≤ i) = true then some { s with next := i.toNat } else none) = some s' := h
    by_cases hi : 0 ≤ i
    · rw [if_pos (decide_eq_true hi)] at h
      cases h
      have e : i = ((i.toNat : Nat) : Int) := (Int.toNat_of_nonneg hi).symm
      show putK (penKV c s) (Sum.inr "next" : Key) (.int i) = ([(Sum.inr "cells", .ref c), (Sum.inr "next", .int ((i.toNat : Nat) : Int)), (Sum.inr "digits", .int s.digits), (Sum.inr "rest", .int s.rest), (Sum.inr "seed", .int s.seed), (Sum.inr "turn", .int s.turn)] : List (Key × V))
      rw [← e]
      rfl
    · rw [if_neg (by simp [hi])] at h; cases h
  all_goals (cases h; rfl)

theorem rep_ints {p : Fm} {H : Hp} : ∀ ns : List Int, RepL G p H (ns.map D.int) (ns.map V.int)
  | [] => rfl
  | n :: ns => ⟨.int n, ns.map V.int, rfl, rfl, rep_ints ns⟩
/-- pen['f'] -/
def penGet (fe : Loc → M D) (f : Fl) : Loc → M D := fun ρ => mbind (fe ρ) fun d => fun s => match d with
  | .pen => .ok (s.get f) s
  | _ => .bad
variable {o : Expr} {to : TE} {fo fv : Loc → M D} {pos pos' : Pos} {j : Nat} {pk : Pos} {value : Expr} {tv : TE}
theorem de_penGet (f : Fl) (hu : X.A.units + 1 < cLine) (ho : DE G X W o to fo) {z : Str} (hz : z = f.key) : DE G X W (.Subscript o (.Constant (.str z) j pk) pos) (tDGet to (tC (.str z))) (penGet fo f) := by
  subst hz
  refine ⟨pe_dget hu ho.pe pe_str (fun _ _ => rfl), fun p σ H ρ s Q e pk fin => ?_⟩
  refine ho.run p σ H ρ s _ e pk (fin.step fun d s1 v H1 k1 pk1 rd fin1 => ?_)
  cases d <;> first
    | exact False.elim fin1
    | skip
  obtain ⟨a, c0, ea, rfl⟩ := rd
  obtain ⟨c, ec, hc, h1, h2⟩ := (pk1.1 a (some c0) ea).resolve_left fun z => nomatch z.1
  have hg := DGet.k (k := (Sum.inr f.key : Key)) h1
  rw [val_pen] at hg
  refine ⟨a, _, rfl, hg, fin1 _ H1 Keep.refl pk1 ?_⟩
  cases f <;> first
    | rfl
    | exact ⟨c, _, rfl, hc, h2, rep_ints _⟩
/-- pen['f'] = v -/
def penPut (fo fv : Loc → M D) (f : Fl) : MS := fun ρ s => sof (fv ρ s) ρ fun d s1 => sof (fo ρ s1) ρ fun x s2 => match x with
  | .pen => (match s2.put f d with
    | some s3 => .nx ρ s3
    | none => .bad)
  | _ => .bad
theorem ds_penPut (f : Fl) (hu : X.A.units + 1 < cLine) (ho : DE G X W o to fo) (hv : DE G X W value tv fv) {z : Str} (hz : z = f.key) (hs : swapsWith value (some (.Subscript o (.Constant (.str z) j pk) pos')) pos.line X.env = pure false := by rfl) :
    DS G X W (.Assign [.Subscript o (.Constant (.str z) j pk) pos'] value pos) (sDPut to (tC (.str z)) tv) (penPut fo fv f) := by
  subst hz
  refine ⟨ps_dput hu ho.pe pe_str hv.pe hs, fun p σ H ρ s Z e pk fin => ?_⟩
  refine hv.run p σ H ρ s _ e pk (FinS.step fin (fun H1 s1 k1 pk1 => e.keep pk.at k1) fun d s1 v H1 k1 pk1 rd fin1 => ?_)
  have e1 := e.keep pk.at k1
  refine ho.run p σ H1 ρ s1 _ e1 pk1 (FinS.step fin1 (fun H2 s2 k2 pk2 => e1.keep pk1.at k2) fun x s2 vx H2 k2 pk2 rx fin2 => ?_)
  cases x <;> first
    | exact False.elim fin2
    | skip
  obtain ⟨a, c0, ea, rfl⟩ := rx
  dsimp only at fin2
  obtain ⟨c, ec, hc, h1, h2⟩ := (pk2.1 a (some c0) ea).resolve_left fun z => nomatch z.1
  cases q : s2.put f d with
  | none => rw [q] at fin2; exact False.elim fin2
  | some s3 =>
    rw [q] at fin2
    have hi : ∃ i, d = .int i := by
      cases f <;> cases d <;> first
        | exact ⟨_, rfl⟩
        | cases q
    obtain ⟨i, rfl⟩ := hi
    obtain rfl : v = .int i := rd
    refine ⟨a, _, rfl, DPut.k (k := (Sum.inr f.key : Key)) h1 (by show 6 < sizeLine; decide), ?_⟩
    have hcell : s3.cells = s2.cells ∧ s3.obj = s2.obj ∧ s3.ocls = s2.ocls := by
      cases f <;> first
        | (cases q; exact ⟨rfl, rfl, rfl⟩)
        | (cases q; done)
        | (have q : (if decide (0 ≤ i) = true then some { s2 with next := i.toNat } else none) = some s3 := q
           split at q
           · cases q; exact ⟨rfl, rfl, rfl⟩
           · cases q)
    rw [put_pen c s2 s3 f i q]
    have hca : c ≠ a := ne_of h2 h1 (fun z => nomatch z)
    obtain ⟨hc1, hc3, hc4⟩ := hcell
    have ha : p.out a := p.okp a (some c0) ea
    have kk : Keep p H2 (upd H2 a (.dK (penKV c s3))) := fun b u n eb => by
      rw [upd_ne (fun z => n (.inl ⟨some c0, by rw [z]; exact ea⟩))]; exact eb
    have pk3 : PenOk G p (upd H2 a (.dK (penKV c s3))) s3 := by
      refine ⟨fun b kd eb => ?_, fun x c' dx e => ?_, fun b hb => ?_⟩
      · have eab : (a, some c0) = (b, kd) := Option.some.inj (ea.symm.trans eb)
        cases eab
        exact .inr ⟨c, ec, hc, upd_same, by rw [upd_ne hca, hc1]; exact h2⟩
      · obtain ⟨vs, h3, hl, h4⟩ := pk2.2.1 x c' dx e
        rw [hc3, hc4]
        exact ⟨vs, by rw [upd_ne (p.neo a (some c0) _ _ _ ea e)]; exact h3, hl, repL_upd ha _ _ h4⟩
      · by_cases z : b = a
        · subst z; exact ⟨_, upd_same⟩
        · rw [upd_ne z]; exact pk2.2.2 b hb
    exact fin2 σ _ kk pk3 ((e1.keep pk1.at k2).keep pk2.at kk)
end
end Tw

set_option Elab.async false
set_option linter.all false
set_option maxRecDepth 100000
set_option maxHeartbeats 4000000
set_option autoImplicit false
namespace Tw
open PySem L2 PySem.Spec PyProof.Rows
section
variable {K : PySem.W.Frag} {G : Gt} {W : WX} {X : Cx}
/-- // and % by any divisor but 0 -/
def CDivX (_ j : Int) : Prop := j ≠ 0 ∧ j.natAbs.log2 < 9000
theorem op_fdivX : OpR X (binaryOp .FloorDiv) (rI CDivX fun i j => .int (i.fdiv j)) := opI fun i j _ _ _ _ _ hc q => floordiv_int hc.1 q (.inl (PyProof.noPylong_of_log2 hc.2))
def fdvI : D → D → M D := int2c (fun _ j => decide (j ≠ 0 ∧ j.natAbs.log2 < 9000)) fun i j => .int (i.fdiv j)
def fmdI : D → D → M D := int2c (fun _ j => decide (j ≠ 0)) fun i j => .int (i.fmod j)
theorem prim_fdv : Prim2 G (rI CDivX fun i j => .int (i.fdiv j)) fdvI := prim_I (fun i j h => of_decide_eq_true (p := j ≠ 0 ∧ j.natAbs.log2 < 9000) h) fun _ _ _ _ => rfl
theorem prim_fmd : Prim2 G (rI (fun _ j => j ≠ 0) fun i j => .int (i.fmod j)) fmdI := prim_I (fun i j h => of_decide_eq_true (p := j ≠ 0) h) fun _ _ _ _ => rfl
theorem cr_isi (hK : X.K = K) : CallR X (.builtin "isinstance") (rIsi K) := by subst hK; exact call_isi
theorem cr_len (hK : X.K = K) : CallR X (.builtin "len") (fun xs H Q => ∃ p ys, xs = [.ref p] ∧ (SqL K H p ys ∨ SqT K H p ys) ∧ Q (.int ys.length) H) := by subst hK; exact call_len_seq
variable {a b c e : Expr} {ta te : TE} {fa fe : Loc → M D} {pos : Pos} {tA : TA} {fA : Loc → M (List D)}
theorem ds_setLc {i : Nat} {y : Str} {py spos : Pos} {tg iter elt : Expr} {ifs : List Expr} {scope : Scope} {own : List (Str × Nat)} {wi : TI} {g : TG} {gm : D → Loc → Option Loc} {fi : Loc → M (List D)} {tt : TT} {mt : Loc → M Bool} (hc : X.calm = true) (hN : X.N.Nodup) (hy : X.N[i]? = some y) (hyl : X.env.scope.names.lookup y = some .local)
    (hsw : swapsWith (.ListComp elt [⟨tg, iter, ifs, 0⟩] scope pos) (some (.Name y py)) spos.line X.env = pure true) (hi : DI G X W tg iter wi fi) (ok : BlkOk X.N X.env.scope scope own)
    (hg : ∀ (s : Shared) (H : Hp) (C : Addr) (cl : List (Str × Addr)) (fp : List Addr), DG G (X.blk s H scope (compEnvC scope cl C X.env) fp) (own.map (·.2)) tg g gm) (ht : ∀ (s : Shared) (H : Hp) (C : Addr) (cl : List (Str × Addr)) (fp : List Addr), PTs (X.blk s H scope (compEnvC scope cl C X.env) fp) ifs tt) (htr : RunG G W0 RelB tt mt)
    (he : ∀ (s : Shared) (H : Hp) (C : Addr) (cl : List (Str × Addr)) (fp : List Addr), DE G (X.blk s H scope (compEnvC scope cl C X.env) fp) W0 elt te fe) (hs : ∀ x, foldedSetIterable iter X.env x = pure x := by intro _; rfl) :
    DS G X W (.Assign [.Name y py] (.ListComp elt [⟨tg, iter, ifs, 0⟩] scope pos) spos) (tAsg (tLc wi g tt te (own.map (·.2))) (gName i)) (sasg (fun ρ => mbind (fi ρ) fun ds => mbind (cloop gm mt fe ds (wipeL ρ (own.map (·.2))) []) lstD) (gnm i)) :=
  ⟨ps_setLc hc hN hy hyl hsw hi.pi ok (fun s H C cl fp => (hg s H C cl fp).pg) ht (fun s H C cl fp => (he s H C cl fp).pe) hs, run_asg (run_lc hi.run (hg X.s_0 (fun _ => none) 0 [] []).run htr (he X.s_0 (fun _ => none) 0 [] []).run) run_gname⟩
theorem run_yes : RunG G W RelB tYes (fun _ => mret true) := fun p σ H ρ s Q e pk fin => fin _ H Keep.refl pk rfl
theorem ds_par {i j : Nat} {x y : Str} {px py pt : Pos} {kt k2 pt2} (hc : X.calm = true) (hN : X.N.Nodup) (hi : X.N[i]? = some x) (hj : X.N[j]? = some y) (hij : i ≠ j)
    (hx : X.env.scope.names.lookup x = some .local) (hy : X.env.scope.names.lookup y = some .local) (ha : DA G X W [a, b] tA fA)
    (hw : swappedStores [.Tuple [.Name x px, .Name y py] kt pt] (.Tuple [a, b] k2 pt2) X.env = pure (some [x, y]) := by rfl)
    (hs : swapsWithSole [.Tuple [.Name x px, .Name y py] kt pt] (.Tuple [a, b] k2 pt2) pos.line X.env = pure false := by rfl) :
    DS G X W (.Assign [.Tuple [.Name x px, .Name y py] kt pt] (.Tuple [a, b] k2 pt2) pos) (tPar i j tA) (spar i j fA) := ⟨ps_par hc hN hi hj hij hx hy ha.pa hw hs, run_par ha.run⟩
/-- a def of the text, with its name in the module -/
structure Dfn (K : PySem.W.Frag) (mg : Str → Option Value) (x qual : Str) (st : Stmt) (ps : List Str) (f : Addr) (fd : FuncData) : Prop where
  fn : Fun K x qual st f fd
  m : mg x = some (.ref f)
  b : L2.Binds K fd ps []
/-- an own error whose __init__ does nothing -/
structure Err0 (K : PySem.W.Frag) (mg : Str → Option Value) (x : Str) (C fI : Addr) (st : Stmt) (qual : Str) (fd : FuncData) : Prop where
  ox : OexC K C
  fi : PySem.W.findIn K (.ref C) "__init__" = some (some (.ref fI))
  ti : PySem.W.typeIn K (.ref fI) = some (.type "function")
  fn : Fun K "__init__" qual st fI fd
  bd : L2.Binds K fd ["self"] []
  m : mg x = some (.ref C)

/-! ### the pen is made -/
variable {P : Program} {w : World} {mg : Str → Option Value} {base : Heap}
def pen0 (ns : List Int) (seed : Int) : Pen := ⟨ns, 0, 0, 0, seed, 0, [], 0⟩
/-- a list of whole numbers comes in, a pen goes out -/
def spPen (K : PySem.W.Frag) : Sp := fun vs H Q _ => ∃ (a : Addr) (ns : List Int), vs = [.ref a] ∧ SqL K H a (ns.map V.int) ∧
  ∀ (seed : Int) (H' : Hp) (p c : Addr), Same H H' → H p = none → H c = none → H' p = some (.dK (penKV c (pen0 ns seed))) → H' c = some (.lst (ns.map V.int)) → Q (.ref p) H'
end
end Tw

set_option Elab.async false
set_option linter.all false
set_option maxRecDepth 100000
set_option maxHeartbeats 4000000
set_option autoImplicit false
namespace Tw
open PySem L2 PySem.Spec PyProof.Rows
/-! ### mirrors by name -/
def kC (d : D) : Loc → M D := fun _ => mret d
def kOp (f : D → D → M D) (fa fb : Loc → M D) : Loc → M D := fun ρ => mbind (fa ρ) fun x => mbind (fb ρ) fun y => f x y
def kUn (f : D → M D) (fa : Loc → M D) : Loc → M D := fun ρ => mbind (fa ρ) f
def kB (fa : Loc → M D) : Loc → M Bool := fun ρ => mbind (fa ρ) asB
def kAnd (f1 f2 : Loc → M Bool) : Loc → M Bool := fun ρ => mbind (f1 ρ) fun c => if c = true then f2 ρ else mret false
def kOr (f1 f2 : Loc → M Bool) : Loc → M Bool := fun ρ => mbind (f1 ρ) fun c => if c = true then mret true else f2 ρ
def kNot (f1 : Loc → M Bool) : Loc → M Bool := fun ρ => mbind (f1 ρ) fun c => mret (!c)
def kAndV (fa fb : Loc → M D) : Loc → M D := fun ρ => mbind (mbind (fa ρ) asB) fun c => if c = true then fb ρ else mret (.bl false)
def kOrV (fa fb : Loc → M D) : Loc → M D := fun ρ => mbind (mbind (fa ρ) asB) fun c => if c = true then mret (.bl true) else fb ρ
def kNotV (fa : Loc → M D) : Loc → M D := fun ρ => mbind (mbind (fa ρ) asB) fun c => mret (.bl (!c))
def kIf (f1 : Loc → M Bool) (fa fb : Loc → M D) : Loc → M D := fun ρ => mbind (f1 ρ) fun c => if c = true then fa ρ else fb ρ
def kCh (f f' : D → D → M D) (fa fb fc : Loc → M D) : Loc → M D := fun ρ => mbind (fa ρ) fun x => mbind (fb ρ) fun y => mbind (mbind (f x y) asB) fun k => if k = true then mbind (fc ρ) fun z => f' y z else mret (.bl false)
def aNil : Loc → M (List D) := fun _ => mret []
def aCons (fe : Loc → M D) (fA : Loc → M (List D)) : Loc → M (List D) := fun ρ => mbind (fe ρ) fun x => mbind (fA ρ) fun xs => mret (x :: xs)
def kCall (m : List D → M D) (fA : Loc → M (List D)) : Loc → M D := fun ρ => mbind (fA ρ) m
def kLc (fi : Loc → M (List D)) (gm : D → Loc → Option Loc) (mt : Loc → M Bool) (fe : Loc → M D) (vs : List Nat) : Loc → M D := fun ρ => mbind (fi ρ) fun ds => mbind (cloop gm mt fe ds (wipeL ρ vs) []) lstD
def iL (fe : Loc → M D) : Loc → M (List D) := fun ρ => mbind (fe ρ) asL
def iT (fe : Loc → M D) : Loc → M (List D) := fun ρ => mbind (fe ρ) asT
def iR1 (fA : Loc → M (List D)) : Loc → M (List D) := fun ρ => mbind (fA ρ) rng1
def iR2 (fA : Loc → M (List D)) : Loc → M (List D) := fun ρ => mbind (fA ρ) rng2
def zNx : MS := fun ρ s => .nx ρ s
def zBk : MS := fun ρ s => .bk ρ s
def zCt : MS := fun ρ s => .ct ρ s
def zEx (fe : Loc → M D) : MS := fun ρ s => sof (fe ρ s) ρ fun _ s' => .nx ρ s'
def zRet (fe : Loc → M D) : MS := fun ρ s => sof (fe ρ s) ρ fun d s' => .ret d s'
def zRetN : MS := fun _ s => .ret .non s
def zIf (f1 : Loc → M Bool) (m m' : MS) : MS := fun ρ s => sof (f1 ρ s) ρ fun k s' => if k = true then m ρ s' else m' ρ s'
def zRaise (c : Nat) : MS := fun ρ s => .exc c [] [] ρ s
def oT (mt : Nat → Option Bool) (mb : MS) (hm : MS) : MS := sTry mb mt fun c ns xs ρ s => match hm ρ s with | .exc _ _ _ _ _ => .bad | o => o
def oA (i : Nat) (mt : Nat → Option Bool) (nf : Nat → Bool) (mb : MS) (hm : Nat → MS) : MS := sTry mb mt fun c ns xs ρ s => if (nf c && !ns.isEmpty) = true then .bad else backOf i (hm c (ρ.set i (some (.err c ns xs))) s)
section
variable {K : PySem.W.Frag} {G : Gt} {W : WX} {X : Cx}
variable {a b c e : Expr} {es rest : List Expr} {ta tb tc te : TE} {fa fb fc fe : Loc → M D} {r r' : R2} {f f' : D → D → M D} {pos : Pos} {tA : TA} {fA : Loc → M (List D)} {A1 A2 : TT} {f1 f2 : Loc → M Bool} {t u : TS} {m m' mb : MS} {sts : List Stmt} {st : Stmt}
theorem x_int {i : Int} {j : Nat} : DE G X W (.Constant (.int i) j pos) (tC (.int i)) (kC (.int i)) := de_int
theorem x_bl {i : Bool} {j : Nat} : DE G X W (.Constant (.bool i) j pos) (tC (.bl i)) (kC (.bl i)) := de_bl
theorem x_non {j : Nat} : DE G X W (.Constant .none j pos) (tC .non) (kC .non) := de_non
theorem x_str {x : Str} {j : Nat} : DE G X W (.Constant (.str x) j pos) (tC (.str x)) (kC (.str x)) := de_str
theorem x_ty {x : Str} {n : String} (hm : X.mg x = none) (hv : bootBuiltins x = some (.type n)) (hg : Gl X x := by rfl) (hn : x ≠ "__name__" := by decide) (hd : (x == ("__debug__" : Str)) = false := by decide) : DE G X W (.Name x pos) (tC (.ty n)) (kC (.ty n)) := de_ty hg hm hv hn hd
theorem x_cls {x : Str} {n : Nat} (hm : X.mg x = some (.ref (G.cls n))) (hg : Gl X x := by rfl) (hd : (x == ("__debug__" : Str)) = false := by decide) : DE G X W (.Name x pos) (tC (.ref (G.cls n))) (kC (.cls n)) := de_cls hg hm hd
theorem x_op {op : Operator} (ho : OpR X (binaryOp op) r) (hp : Prim2 G r f) (ha : DE G X W a ta fa) (hb : DE G X W b tb fb) : DE G X W (.BinOp a op b pos) (tOp r ta tb) (kOp f fa fb) := de_op ho hp ha hb
theorem x_un {op : UnaryOp} {r : V → Hp → VK → Prop} {f : D → M D} (ho : UnR X (unaryOp op) r) (hp : Prim1 G r f) (ha : DE G X W a ta fa) : DE G X W (.UnaryOp op a pos) (tUn r ta) (kUn f fa) := de_un ho hp ha
theorem x_cmp {op : CmpOp} (ho : OpR X (compareOp op) r) (hp : Prim2 G r f) (ha : DE G X W a ta fa) (hb : DE G X W b tb fb) (hm : behindInMarks op b = false := by first | exact nomark _ | rfl) : DE G X W (.Compare a [op] [b] pos) (tOp r ta tb) (kOp f fa fb) := de_cmp ho hp ha hb hm
theorem x_chain {op op' : CmpOp} (ho : OpR X (compareOp op) r) (ho' : OpR X (compareOp op') r') (hp : Prim2 G r f) (hp' : Prim2 G r' f') (ha : DE G X W a ta fa) (hb : DE G X W b tb fb) (hc : DE G X W c tc fc)
    (hm : lastMarks [op, op'] [b, c] = false := by with_unfolding_all rfl) : DE G X W (.Compare a [op, op'] [b, c] pos) (tChain r r' ta tb tc) (kCh f f' fa fb fc) := de_chain ho ho' hp hp' ha hb hc hm
theorem q_val (h : DE G X W e te fe) (he : ∀ whole, isTrue e X.env whole = (do let v ← whole; standAt e.pos; holding [v] (truthy v)) := by intro _; rfl) : DT G X W e (tB te) (kB fe) := dt_val h he
theorem q_cmp {op : CmpOp} (ho : OpR X (compareOp op) r) (hp : Prim2 G r f) (ha : DE G X W a ta fa) (hb : DE G X W b tb fb) (hm : behindInMarks op b = false := by first | exact nomark _ | rfl) : DT G X W (.Compare a [op] [b] pos) (tTest (tOp r ta tb)) (kB (kOp f fa fb)) := dt_cmp ho hp ha hb hm
theorem w_and1 (ha : DT G X W a A1 f1) : DW G X W (.BoolOp .And [a] pos) A1 f1 := dw_and1 ha
theorem w_or1 (ha : DT G X W a A1 f1) : DW G X W (.BoolOp .Or [a] pos) A1 f1 := dw_or1 ha
theorem w_and (ha : DT G X W a A1 f1) (hb : DW G X W (.BoolOp .And (b :: rest) pos) A2 f2) : DW G X W (.BoolOp .And (a :: b :: rest) pos) (tAnd A1 A2) (kAnd f1 f2) := dw_and ha hb
theorem w_or (ha : DT G X W a A1 f1) (hb : DW G X W (.BoolOp .Or (b :: rest) pos) A2 f2) : DW G X W (.BoolOp .Or (a :: b :: rest) pos) (tOr A1 A2) (kOr f1 f2) := dw_or ha hb
theorem q_not (ha : DT G X W a A1 f1) : DT G X W (.UnaryOp .Not a pos) (tNot A1) (kNot f1) := dt_not ha
theorem x_and (ha : DE G X W a ta fa) (hb : DE G X W (.BoolOp .And (b :: rest) pos) tb fb) : DE G X W (.BoolOp .And (a :: b :: rest) pos) (tAndV ta tb) (kAndV fa fb) := de_and ha hb
theorem x_or (ha : DE G X W a ta fa) (hb : DE G X W (.BoolOp .Or (b :: rest) pos) tb fb) : DE G X W (.BoolOp .Or (a :: b :: rest) pos) (tOrV ta tb) (kOrV fa fb) := de_or ha hb
theorem x_not (ha : DE G X W a ta fa) : DE G X W (.UnaryOp .Not a pos) (tNotV ta) (kNotV fa) := de_not ha
theorem x_ifExp (hc : DT G X W c A1 f1) (ha : DE G X W a ta fa) (hb : DE G X W b tb fb) : DE G X W (.IfExp c a b pos) (tIf A1 ta tb) (kIf f1 fa fb) := de_ifExp hc ha hb
theorem a_nil : DA G X W [] tNil aNil := da_nil
theorem a_cons (ha : DE G X W e te fe) (hr : DA G X W es tA fA) (hs : starEach (e :: es) X.env = (false, eval e X.env) :: starEach es X.env := by rfl) : DA G X W (e :: es) (tCons te tA) (aCons fe fA) := da_cons ha hr hs
theorem l_nil : LenA aNil 0 := len_nil
theorem l_cons {n : Nat} (h : LenA fA n) : LenA (aCons fe fA) (n + 1) := len_cons h
theorem x_tup {x1} (h : DA G X W es tA fA) : DE G X W (.Tuple es x1 pos) (tTup tA) (kCall tupD fA) := de_tup h
theorem x_lst (h : DA G X W es tA fA) : DE G X W (.List es pos) (tLst tA) (kCall lstD fA) := de_lst h
theorem x_ix (hK : X.K = K) (ha : DE G X W a ta fa) (hb : DE G X W b tb fb) (hs : PlainIx b := by exact fun _ _ => rfl) : DE G X W (.Subscript a b pos) (tOp (fun x y H Q => rIxL K x y H Q ∨ rIxT K x y H Q) ta tb) (kOp itemD fa fb) := de_ix hK ha hb hs
theorem x_call {k n : Nat} {g : Addr} {fd : FuncData} {ps : List Str} {m : List D → M D} {x : Str} {p0 : Pos} (F : FnOk X.prog X.w X.K X.mg X.base (L2.CX X.prog X.w) k g fd ps (spM G n m)) (hr : Room k X.A) (tk : Takes X W) (hm : X.mg x = some (.ref g)) (hk : PySem.W.keepIn X.K (.ref g) = true) (hb : L2.Binds X.K fd ps [])
    (ha : DA G X W (e :: es) tA fA) (hl : LenA fA n) (hg : Gl X x := by rfl) (hdb : (x == ("__debug__" : Str)) = false := by decide) (he : starEach (e :: es) X.env = (false, eval e X.env) :: starEach es X.env := by rfl) (hpl : (backTo pos (starEach es X.env)).any (·.1) = false := by rfl) :
    DE G X W (.Call (.Name x p0) (e :: es) [] pos) (tCallS (spM G n m) (WE W) tA) (kCall m fA) := de_call F hr tk hg hm hk hb ha hl hdb he hpl
theorem x_callB {x : Str} {p0 : Pos} {id : String} {rl : List V → Hp → VK → Prop} {g : List D → M D} (hc : CallR X (.builtin id) rl) (hp : PrimL G rl g) (hm : X.mg x = none) (hv : bootBuiltins x = some (.builtin id)) (ha : DA G X W (e :: es) tA fA) (hg : Gl X x := by rfl) (hn : x ≠ "__name__" := by decide) (hdb : (x == ("__debug__" : Str)) = false := by decide)
    (he : starEach (e :: es) X.env = (false, eval e X.env) :: starEach es X.env := by rfl) (hpl : (backTo pos (starEach es X.env)).any (·.1) = false := by rfl) : DE G X W (.Call (.Name x p0) (e :: es) [] pos) (tCB rl tA) (kCall g fA) := de_callB hc hp hg hm hv ha hn hdb he hpl
theorem x_callTy {x : Str} {p0 : Pos} {T : String} {rl : List V → Hp → VK → Prop} {g : List D → M D} (hc : CallR X (.type T) rl) (hp : PrimL G rl g) (hm : X.mg x = none) (hv : bootBuiltins x = some (.type T)) (ha : DA G X W (e :: es) tA fA) (hg : Gl X x := by rfl) (hn : x ≠ "__name__" := by decide) (hdb : (x == ("__debug__" : Str)) = false := by decide)
    (he : starEach (e :: es) X.env = (false, eval e X.env) :: starEach es X.env := by rfl) (hpl : (backTo pos (starEach es X.env)).any (·.1) = false := by rfl) : DE G X W (.Call (.Name x p0) (e :: es) [] pos) (tCB rl tA) (kCall g fA) := de_callTy hc hp hg hm hv ha hn hdb he hpl
theorem x_callG {x : Str} {p0 : Pos} {id : String} {rl : List V → Hp → VK → Prop} {g : List D → M D} (hc : CallR X (.builtin id) rl) (hp : PrimL G rl g) (hm : X.mg x = some (.builtin id)) (ha : DA G X W (e :: es) tA fA) (hg : Gl X x := by rfl) (hdb : (x == ("__debug__" : Str)) = false := by decide)
    (he : starEach (e :: es) X.env = (false, eval e X.env) :: starEach es X.env := by rfl) (hpl : (backTo pos (starEach es X.env)).any (·.1) = false := by rfl) : DE G X W (.Call (.Name x p0) (e :: es) [] pos) (tCB rl tA) (kCall g fA) := de_callBfun hc hp hg hm ha hdb he hpl
theorem i_list {tg : Expr} (hK : X.K = K) (hl : DE G X W e te fe) : DI G X W tg e (iList K te) (iL fe) := di_list hK hl
theorem i_tup {tg : Expr} (hK : X.K = K) (hl : DE G X W e te fe) : DI G X W tg e (iTup K te) (iT fe) := di_tup hK hl
theorem i_range1 {tg : Expr} {p0 : Pos} (hm : X.mg "range" = none) (ha : DA G X W [a] tA fA) (hg : Gl X "range" := by rfl) (hs : starEach [a] X.env = [(false, eval a X.env)] := by rfl) : DI G X W tg (.Call (.Name "range" p0) [a] [] pos) (iRng1 tA) (iR1 fA) := di_range1 hg hm ha hs
theorem i_range2 {tg : Expr} {p0 : Pos} (hm : X.mg "range" = none) (ha : DA G X W [a, b] tA fA) (hg : Gl X "range" := by rfl) (hs : starEach [a, b] X.env = [(false, eval a X.env), (false, eval b X.env)] := by rfl) (hs2 : starEach [b] X.env = [(false, eval b X.env)] := by rfl) : DI G X W tg (.Call (.Name "range" p0) [a, b] [] pos) (iRng2 tA) (iR2 fA) := di_range2 hg hm ha hs hs2
theorem x_lc {tg iter elt : Expr} {ifs : List Expr} {scope : Scope} (own : List (Str × Nat)) {wi : TI} {g : TG} {gm : D → Loc → Option Loc} {fi : Loc → M (List D)} {tt : TT} {mt : Loc → M Bool} (hc : X.calm = true) (hN : X.N.Nodup) (hi : DI G X W tg iter wi fi) (ok : BlkOk X.N X.env.scope scope own)
    (hg : ∀ (s : Shared) (H : Hp) (C : Addr) (cl : List (Str × Addr)) (fp : List Addr), DG G (X.blk s H scope (compEnvC scope cl C X.env) fp) (own.map (·.2)) tg g gm) (ht : ∀ (s : Shared) (H : Hp) (C : Addr) (cl : List (Str × Addr)) (fp : List Addr), PTs (X.blk s H scope (compEnvC scope cl C X.env) fp) ifs tt) (htr : RunG G W0 RelB tt mt)
    (he : ∀ (s : Shared) (H : Hp) (C : Addr) (cl : List (Str × Addr)) (fp : List Addr), DE G (X.blk s H scope (compEnvC scope cl C X.env) fp) W0 elt te fe) (hs : ∀ x, foldedSetIterable iter X.env x = pure x := by intro _; rfl) :
    DE G X W (.ListComp elt [⟨tg, iter, ifs, 0⟩] scope pos) (tLc wi g tt te (own.map (·.2))) (kLc fi gm mt fe (own.map (·.2))) := de_lc hc hN hi ok hg ht htr he hs
theorem z_setLc {i : Nat} {y : Str} {py spos : Pos} {tg iter elt : Expr} {ifs : List Expr} {scope : Scope} (own : List (Str × Nat)) {wi : TI} {g : TG} {gm : D → Loc → Option Loc} {fi : Loc → M (List D)} {tt : TT} {mt : Loc → M Bool} (hc : X.calm = true) (hN : X.N.Nodup) (hy : X.N[i]? = some y) (hyl : X.env.scope.names.lookup y = some .local)
    (hsw : swapsWith (.ListComp elt [⟨tg, iter, ifs, 0⟩] scope pos) (some (.Name y py)) spos.line X.env = pure true) (hi : DI G X W tg iter wi fi) (ok : BlkOk X.N X.env.scope scope own)
    (hg : ∀ (s : Shared) (H : Hp) (C : Addr) (cl : List (Str × Addr)) (fp : List Addr), DG G (X.blk s H scope (compEnvC scope cl C X.env) fp) (own.map (·.2)) tg g gm) (ht : ∀ (s : Shared) (H : Hp) (C : Addr) (cl : List (Str × Addr)) (fp : List Addr), PTs (X.blk s H scope (compEnvC scope cl C X.env) fp) ifs tt) (htr : RunG G W0 RelB tt mt)
    (he : ∀ (s : Shared) (H : Hp) (C : Addr) (cl : List (Str × Addr)) (fp : List Addr), DE G (X.blk s H scope (compEnvC scope cl C X.env) fp) W0 elt te fe) (hs : ∀ x, foldedSetIterable iter X.env x = pure x := by intro _; rfl) :
    DS G X W (.Assign [.Name y py] (.ListComp elt [⟨tg, iter, ifs, 0⟩] scope pos) spos) (tAsg (tLc wi g tt te (own.map (·.2))) (gName i)) (sasg (kLc fi gm mt fe (own.map (·.2))) (gnm i)) := ds_setLc hc hN hy hyl hsw hi ok hg ht htr he hs
theorem z_nil : DSs G X W [] tNext zNx := dss_nil
theorem z_expr (he : DE G X W e te fe) (hs : swapsWith e none pos.line X.env = pure false := by rfl) : DS G X W (.Expr e pos) (tDrop te) (zEx fe) := ds_expr he hs
theorem z_ret (he : DE G X W e te fe) : DS G X W (.Return (some e) pos) (tRet te) (zRet fe) := ds_ret he
theorem z_retN : DS G X W (.Return none pos) tRetN zRetN := ds_retN
theorem z_pass : DS G X W (.Pass pos) tNext zNx := ds_pass
theorem z_break : DS G X W (.Break pos) tBreak zBk := ds_break
theorem z_continue : DS G X W (.Continue pos) tCont zCt := ds_continue
theorem z_if {x y : List Stmt} (hc : DT G X W c A1 f1) (ha : DSs G X W x t m) (hb : DSs G X W y u m') : DS G X W (.If c x y pos) (tIfS A1 t u) (zIf f1 m m') := ds_if hc ha hb
theorem z_raise0 {cn : Nat} {x : Str} {fI : Addr} {stI : Stmt} {qual : Str} {fd : FuncData} {p0 pos' ppos : Pos} (hc : X.calm = true) (tk : Takes X W) (E : Err0 X.K X.mg x (G.cls cn) fI stI qual fd) (S : FnScope ["self"] ["self"] (defScope stI)) (hb : defBody stI = [.Pass ppos]) (hr : Room 2 X.A) (hg : Gl X x := by rfl) (hdb : (x == ("__debug__" : Str)) = false := by decide) :
    DS G X W (.Raise (some (.Call (.Name x p0) [] [] pos')) none pos) (fun _ σ H => ∀ H', (∀ b o, H b = some o → H' b = some o) → W (.ref (G.cls cn)) none σ H') (zRaise cn) :=
  ds_raise0 hc tk (pmk_no E.ox E.fi E.ti (ok_noinit E.fn S hb) hr E.bd hg E.m hdb)
theorem g_tup {vs : List Nat} {n k : Nat} {gs : TGs} {g2 : List D → Loc → Option Loc} (hK : X.K = K) (hc : X.calm = true) (h : DGs G X vs es gs g2) (hn : (assignEach es X.env).length = n := by rfl) (hst : (assignEach es X.env).findIdx? (·.1) = none := by rfl) : DG G X vs (.Tuple es k pos) (gTup K n gs) (gtm n g2) := by
  subst hK; exact dg_tup h.run (pg_tup hc h.pg hn hst)
theorem g_lst {vs : List Nat} {n k : Nat} {gs : TGs} {g2 : List D → Loc → Option Loc} (hK : X.K = K) (hc : X.calm = true) (h : DGs G X vs es gs g2) (hn : (assignEach es X.env).length = n := by rfl) (hst : (assignEach es X.env).findIdx? (·.1) = none := by rfl) : DG G X vs (.Tuple es k pos) (gLst K n gs) (glm n g2) := by
  subst hK; exact dg_lst h.run (pg_lst hc h.pg hn hst)
def gnl : List D → Loc → Option Loc := fun ds ρ => match ds with
  | [] => some ρ
  | _ => none
theorem g_nil {vs : List Nat} : DGs G X vs [] gNil gnl := dgs_nil
theorem g_cons {vs : List Nat} {g : TG} {gs : TGs} {g1 : D → Loc → Option Loc} {g2 : List D → Loc → Option Loc} (h1 : DG G X vs e g g1) (h2 : DGs G X vs es gs g2) (hs : (assignEach (e :: es) X.env).map (·.2) = assign e X.env :: (assignEach es X.env).map (·.2) := by rfl) : DGs G X vs (e :: es) (gCons g gs) (gcn g1 g2) := dgs_cons h1 h2 (pgs_cons h1.pg h2.pg hs)
end
end Tw

set_option Elab.async false
set_option linter.all false
set_option maxRecDepth 100000
set_option maxHeartbeats 4000000
set_option autoImplicit false
namespace Tw
open PySem L2
theorem mbind_ret {α β : Type} (a : α) (f : α → M β) : mbind (mret a) f = f a := rfl
theorem mbind_bad {α β : Type} (f : α → M β) : mbind mbad f = mbad := rfl
theorem sof_ret {α : Type} (a : α) (s : Pen) (ρ : Loc) (k : α → Pen → OutS) : sof (mret a s) ρ k = k a s := rfl
theorem mbind_ap {α β : Type} (m : M α) (f : α → M β) (s : Pen) : mbind m f s = obind (m s) f := rfl
theorem obind_ok {α β : Type} (a : α) (s : Pen) (f : α → M β) : obind (.ok a s) f = f a s := rfl
theorem sof_ok {α : Type} (a : α) (s : Pen) (ρ : Loc) (k : α → Pen → OutS) : sof (.ok a s) ρ k = k a s := rfl
theorem mret_ap {α : Type} (a : α) (s : Pen) : mret a s = .ok a s := rfl
theorem sseq_nx {m m' : MS} {ρ ρ' : Loc} {s s' : Pen} (h : m ρ s = .nx ρ' s') : sseq m m' ρ s = m' ρ' s' := by unfold sseq; rw [h]
theorem sseq_ret {m m' : MS} {ρ : Loc} {d : D} {s s' : Pen} (h : m ρ s = .ret d s') : sseq m m' ρ s = .ret d s' := by unfold sseq; rw [h]
theorem mdef_ret {n : Nat} {b : MS} {ds : List D} {d : D} {s s' : Pen} (h : b (startL n ds) s = .ret d s') : mdef n b ds s = .ok d s' := by unfold mdef; rw [h]
theorem pow_eq (i j : Int) (h : (decide (0 ≤ j ∧ j ≤ 1000000 ∧ i.natAbs < 2 ^ 64)) = true) : powI (.int i) (.int j) = mret (.int (i ^ j.toNat)) := by
  show (if (decide (0 ≤ j ∧ j ≤ 1000000 ∧ i.natAbs < 2 ^ 64)) = true then _ else _) = _
  rw [if_pos h]
theorem p9 : powI (.int 10) (.int 9) = mret (.int 1000000000) := rfl
theorem p15 : powI (.int 10) (.int 15) = mret (.int 1000000000000000) := rfl
theorem p18 : powI (.int 10) (.int 18) = mret (.int 1000000000000000000) := rfl
theorem p20 : powI (.int 10) (.int 20) = mret (.int 100000000000000000000) := rfl
theorem p30 : powI (.int 10) (.int 30) = mret (.int 1000000000000000000000000000000) := rfl
theorem mul_eq {i j : Int} (h : mulOk i j = true) : mulI (.int i) (.int j) = mret (.int (i * j)) := by
  show (if mulOk i j = true then mret (D.int (i * j)) else mbad) = _
  rw [if_pos h]
theorem mulOk_r {i j : Int} (h : j.natAbs < 2 ^ 64) : mulOk i j = true := by unfold mulOk; rw [decide_eq_true h]; rfl
theorem mulOk_l {i j : Int} (h : i.natAbs < 2 ^ 64) : mulOk i j = true := by
  unfold mulOk
  rw [decide_eq_true h]
  cases decide (j.natAbs < 2 ^ 64) <;> rfl
theorem log2_le {n m : Nat} (h : n ≤ m) : n.log2 ≤ m.log2 := by
  by_cases h0 : n = 0
  · subst h0; simp
  · exact (Nat.le_log2 (by omega)).mpr (Nat.le_trans (Nat.log2_self_le h0) h)
/-- below 2 ^ n -/
def Sm (n : Nat) (x : Int) : Prop := x.natAbs < 2 ^ n
instance {n : Nat} {x : Int} : Decidable (Sm n x) := inferInstanceAs (Decidable (x.natAbs < 2 ^ n))
theorem Sm.log {n : Nat} {x : Int} (h : Sm n x) (hn : 0 < n) : x.natAbs.log2 < n := PySem.Flt.log2_lt_of hn h
theorem mulOk_s {i j : Int} {n m : Nat} (hi : Sm n i) (hj : Sm m j) (hn : 0 < n) (hm : 0 < m) (h : n + m ≤ 1000000) : mulOk i j = true := by
  have h1 := hi.log hn
  have h2 := hj.log hm
  unfold mulOk
  rw [decide_eq_true (show i.natAbs.log2 + j.natAbs.log2 < 1000000 by omega)]
  cases decide (j.natAbs < 2 ^ 64) <;> cases decide (i.natAbs < 2 ^ 64) <;> rfl
theorem Sm.mul {i j : Int} {n m : Nat} (hi : Sm n i) (hj : Sm m j) : Sm (n + m) (i * j) := wide_lt hi hj
theorem Sm.add {i j : Int} {n : Nat} (hi : Sm n i) (hj : Sm n j) : Sm (n + 1) (i + j) := by
  unfold Sm at *
  have : (2 : Nat) ^ (n + 1) = 2 ^ n + 2 ^ n := by rw [Nat.pow_succ]; omega
  omega
theorem Sm.sub {i j : Int} {n : Nat} (hi : Sm n i) (hj : Sm n j) : Sm (n + 1) (i - j) := by
  unfold Sm at *
  have : (2 : Nat) ^ (n + 1) = 2 ^ n + 2 ^ n := by rw [Nat.pow_succ]; omega
  omega
theorem Sm.mono {i : Int} {n m : Nat} (hi : Sm n i) (h : n ≤ m) : Sm m i := Nat.lt_of_lt_of_le hi (Nat.pow_le_pow_right (by decide) h)
/-- isinstance by a built-in type -/
theorem isi_of {x : D} {T a : String} (h : tag x = some a) (hk : kitB a T = some (subT a T)) : isiB [x, .ty T] = mret (.bl (subT a T)) := by
  show (match tag x with | some a => if decide (kitB a T = some (subT a T)) = true then mret (D.bl (subT a T)) else mbad | none => mbad) = _
  rw [h]
  show (if decide (kitB a T = some (subT a T)) = true then mret (D.bl (subT a T)) else mbad) = _
  rw [if_pos (decide_eq_true hk)]
theorem ii_int (i : Int) : isiB [.int i, .ty "int"] = mret (.bl true) := isi_of (a := "int") rfl (by decide +kernel)
theorem ii_bool (i : Int) : isiB [.int i, .ty "bool"] = mret (.bl false) := isi_of (a := "int") rfl (by decide +kernel)
theorem ib_int (i : Bool) : isiB [.bl i, .ty "int"] = mret (.bl true) := isi_of (a := "bool") rfl (by decide +kernel)
theorem ib_bool (i : Bool) : isiB [.bl i, .ty "bool"] = mret (.bl true) := isi_of (a := "bool") rfl (by decide +kernel)
theorem in_int : isiB [.non, .ty "int"] = mret (.bl false) := isi_of (a := "NoneType") rfl (by decide +kernel)
theorem is_int (x : Str) : isiB [.str x, .ty "int"] = mret (.bl false) := isi_of (a := "str") rfl (by decide +kernel)
theorem it_int (xs : List D) : isiB [.tup xs, .ty "int"] = mret (.bl false) := isi_of (a := "tuple") rfl (by decide +kernel)
theorem il_int (xs : List D) : isiB [.lst xs, .ty "int"] = mret (.bl false) := isi_of (a := "list") rfl (by decide +kernel)
theorem it_tuple (xs : List D) : isiB [.tup xs, .ty "tuple"] = mret (.bl true) := isi_of (a := "tuple") rfl (by decide +kernel)
theorem atI_int {ns : List Int} {i : Nat} (h : i < ns.length) : ∃ n, atI (ns.map D.int) (i : Int) = some (.int n) := by
  refine ⟨ns[i], atI_nat ?_⟩
  rw [List.getElem?_map, List.getElem?_eq_some_iff.mpr ⟨h, rfl⟩]
  rfl
theorem fmd_eq {i j : Int} (h : j ≠ 0) : fmdI (.int i) (.int j) = mret (.int (i.fmod j)) := by
  show (if decide (j ≠ 0) = true then mret (D.int (i.fmod j)) else mbad) = _
  rw [if_pos (decide_eq_true h)]
theorem fdv_eq {i j : Int} (h : j ≠ 0) (h9 : j.natAbs.log2 < 9000) : fdvI (.int i) (.int j) = mret (.int (i.fdiv j)) := by
  show (if decide (j ≠ 0 ∧ j.natAbs.log2 < 9000) = true then mret (D.int (i.fdiv j)) else mbad) = _
  rw [if_pos (decide_eq_true ⟨h, h9⟩)]
theorem fdv_64 {i : Int} : fdvI (.int i) (.int 64) = mret (.int (i.fdiv 64)) := fdv_eq (by decide) (by decide)
end Tw

set_option Elab.async false
set_option linter.all false
set_option maxRecDepth 100000
set_option maxHeartbeats 4000000
set_option autoImplicit false
namespace Tw
open PySem L2
/-! ### ratios -/
/-- a ratio as the program has it -/
def rd (q : Rat) : D := .tup [.int q.num, .int (q.den : Nat)]
theorem cross {a b : Int} (hb : b ≠ 0) : (Rat.divInt a b).num * b = a * ((Rat.divInt a b).den : Nat) := by
  have h := Rat.num_divInt_den (Rat.divInt a b)
  have hd : (((Rat.divInt a b).den : Nat) : Int) ≠ 0 := by have := (Rat.divInt a b).den_nz; omega
  exact (Rat.divInt_eq_divInt_iff hd hb).mp h
theorem rat_add (p q : Rat) : p + q = Rat.divInt (p.num * (q.den : Nat) + q.num * (p.den : Nat)) ((p.den : Nat) * (q.den : Nat)) := by
  have h1 : ((p.den : Nat) : Int) ≠ 0 := by have := p.den_nz; omega
  have h2 : ((q.den : Nat) : Int) ≠ 0 := by have := q.den_nz; omega
  rw [← Rat.divInt_add_divInt _ _ h1 h2, Rat.num_divInt_den, Rat.num_divInt_den]
theorem rat_mul (p q : Rat) : p * q = Rat.divInt (p.num * q.num) ((p.den : Nat) * (q.den : Nat)) := by
  have h1 : ((p.den : Nat) : Int) ≠ 0 := by have := p.den_nz; omega
  have h2 : ((q.den : Nat) : Int) ≠ 0 := by have := q.den_nz; omega
  rw [← Rat.divInt_mul_divInt, Rat.num_divInt_den, Rat.num_divInt_den]
theorem dens (p q : Rat) : ((p.den : Nat) : Int) * ((q.den : Nat) : Int) ≠ 0 := by
  have h1 : ((p.den : Nat) : Int) ≠ 0 := by have := p.den_nz; omega
  have h2 : ((q.den : Nat) : Int) ≠ 0 := by have := q.den_nz; omega
  exact Int.mul_ne_zero h1 h2
/-- both numbers of a ratio are below 2 ^ n -/
def Rs (n : Nat) (q : Rat) : Prop := Sm n q.num ∧ Sm n ((q.den : Nat) : Int)
theorem rs_of {a b : Int} {n : Nat} (ha : Sm n a) (hb : Sm n b) (h0 : b ≠ 0) : Rs n (Rat.divInt a b) := by
  unfold Rs Sm at *
  have hg : 0 < b.gcd a := Int.gcd_pos_of_ne_zero_left a h0
  rw [Rat.num_divInt, Rat.den_divInt, if_neg h0]
  constructor
  · refine Nat.lt_of_le_of_lt ?_ ha
    have e : (b.sign * a).natAbs = a.natAbs := by
      rw [Int.natAbs_mul, Int.natAbs_sign_of_ne_zero h0, Nat.one_mul]
    refine Nat.le_trans (Int.natAbs_ediv_le_natAbs _ _) ?_
    rw [e]
    exact Nat.le_refl _
  · refine Nat.lt_of_le_of_lt ?_ hb
    show ((b.natAbs / b.gcd a : Nat) : Int).natAbs ≤ b.natAbs
    rw [Int.natAbs_natCast]
    exact Nat.div_le_self _ _
theorem sh2 (a b : Int) : SeqAt.shaped (.tuple [.int a, .int b]) = true := rfl
theorem eq_rd (p : Rat) : eqA (rd p) (rd p) = mret (.bl true) := by
  show (if (SeqAt.shaped (.tuple [.int p.num, .int (p.den : Nat)]) && SeqAt.shaped (.tuple [.int p.num, .int (p.den : Nat)])) = true then mret (D.bl (PyData.eqv (.tuple [.int p.num, .int (p.den : Nat)]) (.tuple [.int p.num, .int (p.den : Nat)]))) else mbad) = _
  rw [if_pos (by rw [sh2]; rfl)]
  rw [show PyData.eqv (.tuple [.int p.num, .int (p.den : Nat)]) (.tuple [.int p.num, .int (p.den : Nat)]) = true by simp [PyData.eqv, PyData.eqvAll]]
theorem ne_rd (p : Rat) : neA (rd p) (rd p) = mret (.bl false) := by
  show (if (SeqAt.shaped (.tuple [.int p.num, .int (p.den : Nat)]) && SeqAt.shaped (.tuple [.int p.num, .int (p.den : Nat)])) = true then mret (D.bl (!PyData.eqv (.tuple [.int p.num, .int (p.den : Nat)]) (.tuple [.int p.num, .int (p.den : Nat)]))) else mbad) = _
  rw [if_pos (by rw [sh2]; rfl)]
  rw [show PyData.eqv (.tuple [.int p.num, .int (p.den : Nat)]) (.tuple [.int p.num, .int (p.den : Nat)]) = true by simp [PyData.eqv, PyData.eqvAll]]
  rfl
/-- the two numbers of a lowered fraction, as the program makes them -/
theorem lowered (a b : Int) (hb : b ≠ 0) (g : Int) (eg : g = if b < 0 then -((Nat.gcd a.natAbs b.natAbs : Nat) : Int) else ((Nat.gcd a.natAbs b.natAbs : Nat) : Int)) : (D.tup [.int (a.fdiv g), .int (b.fdiv g)] : D) = rd (Rat.divInt a b) := by
  have hg : 0 < Nat.gcd a.natAbs b.natAbs := Nat.gcd_pos_of_pos_right _ (by omega)
  have hi : ((Nat.gcd a.natAbs b.natAbs : Nat) : Int) ≠ 0 := by omega
  have e1 : ((Nat.gcd a.natAbs b.natAbs : Nat) : Int) ∣ a := Int.ofNat_dvd_left.mpr (Nat.gcd_dvd_left ..)
  have e2 : ((Nat.gcd a.natAbs b.natAbs : Nat) : Int) ∣ b := Int.ofNat_dvd_left.mpr (Nat.gcd_dvd_right ..)
  have ec : (b.gcd a : Nat) = Nat.gcd a.natAbs b.natAbs := by rw [Int.gcd, Nat.gcd_comm]
  unfold rd
  rw [Rat.num_divInt, Rat.den_divInt, if_neg hb, ec]
  obtain ⟨x, hx⟩ := e1
  obtain ⟨y, hy⟩ := e2
  generalize hG : Nat.gcd a.natAbs b.natAbs = G0 at *
  by_cases hneg : b < 0
  · rw [if_pos hneg] at eg
    subst eg
    have hs : b.sign = -1 := Int.sign_eq_neg_one_of_neg hneg
    have ha1 : a.fdiv (-(G0 : Int)) = -x := by
      rw [Int.fdiv_eq_ediv_of_dvd (Int.neg_dvd.mpr ⟨x, hx⟩), Int.ediv_neg, hx, Int.mul_ediv_cancel_left _ hi]
    have hb1 : b.fdiv (-(G0 : Int)) = -y := by
      rw [Int.fdiv_eq_ediv_of_dvd (Int.neg_dvd.mpr ⟨y, hy⟩), Int.ediv_neg, hy, Int.mul_ediv_cancel_left _ hi]
    have ha2 : b.sign * a / (G0 : Int) = -x := by
      rw [hs, hx, Int.neg_one_mul, ← Int.mul_neg, Int.mul_ediv_cancel_left _ hi]
    have hyn : y < 0 := by
      rcases Int.lt_trichotomy y 0 with h | h | h
      · exact h
      · rw [h, Int.mul_zero] at hy; omega
      · have := Int.mul_pos (show (0 : Int) < (G0 : Int) by omega) h
        omega
    have hb2 : ((b.natAbs / G0 : Nat) : Int) = -y := by
      have e : b.natAbs = G0 * (-y).toNat := by
        have : (b.natAbs : Int) = (G0 : Int) * ((-y).toNat : Int) := by
          rw [Int.toNat_of_nonneg (by omega), Int.mul_neg, ← hy]; omega
        exact_mod_cast this
      rw [e, Nat.mul_div_cancel_left _ hg]
      exact Int.toNat_of_nonneg (by omega)
    rw [ha1, hb1, ha2, hb2]
  · rw [if_neg hneg] at eg
    subst eg
    have hs : b.sign = 1 := Int.sign_eq_one_of_pos (by omega)
    have ha1 : a.fdiv (G0 : Int) = x := by
      rw [Int.fdiv_eq_ediv_of_dvd ⟨x, hx⟩, hx, Int.mul_ediv_cancel_left _ hi]
    have hb1 : b.fdiv (G0 : Int) = y := by
      rw [Int.fdiv_eq_ediv_of_dvd ⟨y, hy⟩, hy, Int.mul_ediv_cancel_left _ hi]
    have ha2 : b.sign * a / (G0 : Int) = x := by
      rw [hs, Int.one_mul, hx, Int.mul_ediv_cancel_left _ hi]
    have hyp : 0 < y := by
      rcases Int.lt_trichotomy y 0 with h | h | h
      · have := Int.mul_neg_of_pos_of_neg (show (0 : Int) < (G0 : Int) by omega) h
        omega
      · rw [h, Int.mul_zero] at hy; omega
      · exact h
    have hb2 : ((b.natAbs / G0 : Nat) : Int) = y := by
      have e : b.natAbs = G0 * y.toNat := by
        have : (b.natAbs : Int) = (G0 : Int) * (y.toNat : Int) := by
          rw [Int.toNat_of_nonneg (by omega), ← hy]; omega
        exact_mod_cast this
      rw [e, Nat.mul_div_cancel_left _ hg]
      exact Int.toNat_of_nonneg (by omega)
    rw [ha1, hb1, ha2, hb2]
/-- the signs -/
theorem signs {p q : Rat} {a0 a1 b0 b1 : Int} (ha : a1 ≠ 0) (hb : b1 ≠ 0) (hp : p = Rat.divInt a0 a1) (hq : q = Rat.divInt b0 b1) :
    Int.sign (p.num * (q.den : Nat) - q.num * (p.den : Nat)) = Int.sign (a0 * b1 - b0 * a1) * Int.sign (a1 * b1) := by
  have cp : p.num * a1 = a0 * (p.den : Nat) := by rw [hp]; exact cross ha
  have cq : q.num * b1 = b0 * (q.den : Nat) := by rw [hq]; exact cross hb
  have dp : (0 : Int) < (p.den : Nat) := by have := p.den_nz; omega
  have dq : (0 : Int) < (q.den : Nat) := by have := q.den_nz; omega
  generalize ((p.den : Nat) : Int) = P at *
  generalize ((q.den : Nat) : Int) = Q at *
  generalize p.num = x at *
  generalize q.num = y at *
  have key : (x * Q - y * P) * (a1 * b1) = (a0 * b1 - b0 * a1) * (P * Q) := by grind
  have hz : a1 * b1 ≠ 0 := Int.mul_ne_zero ha hb
  have s1 : Int.sign (x * Q - y * P) * Int.sign (a1 * b1) = Int.sign (a0 * b1 - b0 * a1) := by
    rw [← Int.sign_mul, key, Int.sign_mul, Int.sign_eq_one_of_pos (Int.mul_pos dp dq), Int.mul_one]
  rw [← s1, Int.mul_assoc]
  have s2 : Int.sign (a1 * b1) * Int.sign (a1 * b1) = 1 := by
    rcases Int.lt_or_gt_of_ne hz with h | h
    · rw [Int.sign_eq_neg_one_of_neg h]; rfl
    · rw [Int.sign_eq_one_of_pos h]; rfl
  rw [s2, Int.mul_one]
/-- a loop whose turns all go on and leave the pen -/
theorem sloop_all {gm : D → Loc → Option Loc} {mb : MS} {s : Pen} (I : Loc → Prop) : ∀ (ds : List D) (ρ : Loc), I ρ → (∀ d ∈ ds, ∀ ρ, I ρ → ∃ ρ1 ρ2, gm d ρ = some ρ1 ∧ mb ρ1 s = .nx ρ2 s ∧ I ρ2) → ∃ ρ', sloop gm mb ds ρ s = .nx ρ' s ∧ I ρ'
  | [], ρ, h, _ => ⟨ρ, rfl, h⟩
  | d :: ds, ρ, h, ht => by
    obtain ⟨ρ1, ρ2, e1, e2, h2⟩ := ht d (List.mem_cons_self ..) ρ h
    obtain ⟨ρ', e3, h3⟩ := sloop_all I ds ρ2 h2 fun x hx => ht x (List.mem_cons_of_mem _ hx)
    refine ⟨ρ', ?_, h3⟩
    unfold sloop
    rw [e1]
    dsimp only
    rw [e2]
    exact e3
end Tw

set_option Elab.async false
set_option linter.all false
set_option maxRecDepth 100000
set_option maxHeartbeats 4000000
set_option autoImplicit false
namespace Tw
open PySem L2 PySem.Spec PyProof.Rows
section
variable {K : PySem.W.Frag} {G : Gt} {W : WX} {X : Cx}
variable {a b c e o : Expr} {es : List Expr} {ta te to tv : TE} {fa fe fo fv : Loc → M D} {pos pos' apos : Pos} {tA : TA} {fA : Loc → M (List D)} {f m : Str}

/-! ### e.f -/
def fldOf (ns : List Str) (xs : List D) (f : Str) : Option D := (ns.zip xs).lookup f
theorem fld_rep {p : Fm} {H : Hp} : ∀ {ns : List Str} {xs : List D} {vs : List V} {f : Str} {d : D}, RepL G p H xs vs → fldOf ns xs f = some d → ∃ v, (ns.zip vs).lookup f = some v ∧ Rep G p H d v
  | [], xs, vs, f, d, _, h => by simp [fldOf] at h
  | n :: ns, [], vs, f, d, _, h => by simp [fldOf] at h
  | n :: ns, x :: xs, vs, f, d, q, h => by
    obtain ⟨v, r, rfl, q1, q2⟩ := q
    unfold fldOf at h
    simp only [List.zip_cons_cons, List.lookup] at h ⊢
    cases hb : (f == n) with
    | true => rw [hb] at h; cases h; exact ⟨v, rfl, q1⟩
    | false => rw [hb] at h; exact fld_rep (ns := ns) q2 h
/-- the class numbers that have the attribute in their instances -/
def FldOk (G : Gt) (K : PySem.W.Frag) (f : Str) (cf : Nat → Bool) : Prop := ∀ n, cf n = true → L2.Cls K (G.cls n) ∧ L2.NoAttr K (G.cls n) f
def fldD (cf : Nat → Bool) (f : Str) : D → M D := fun d s => match d with
  | .ins n ns xs => if cf n = true then (match fldOf ns xs f with
    | some x => .ok x s
    | none => .bad) else .bad
  | .self => if (cf s.ocls && s.ocls != gro) = true then (match s.obj.lookup f with
    | some x => .ok x s
    | none => .bad) else .bad
  | _ => .bad
def kFld (cf : Nat → Bool) (f : Str) (fa : Loc → M D) : Loc → M D := fun ρ => mbind (fa ρ) (fldD cf f)
theorem zip_map {α β : Type} : ∀ l : List (α × β), (l.map (·.1)).zip (l.map (·.2)) = l
  | [] => rfl
  | (x, y) :: l => by simp [zip_map l]
theorem x_fld {cf : Nat → Bool} (hc : FldOk G X.K f cf) (ha : DE G X W a ta fa) (hb : attributeBase a f X.env (eval a X.env) = eval a X.env := by rfl) : DE G X W (.Attribute a f pos) (tFld X.K ta f) (kFld cf f fa) := by
  refine ⟨pe_fld ha.pe hb, fun p σ H ρ s Q e pk fin => ?_⟩
  refine ha.run p σ H ρ s _ e pk (fin.step fun d s1 v H1 k1 pk1 rd fin1 => ?_)
  unfold fldD at fin1
  cases d <;> first
    | exact False.elim fin1
    | skip
  · rename_i n ns xs
    dsimp only at fin1
    by_cases hn : cf n = true
    · rw [if_pos hn] at fin1
      cases h : fldOf ns xs f with
      | none => rw [h] at fin1; exact False.elim fin1
      | some x =>
        rw [h] at fin1
        obtain ⟨a, dx, vs, rfl, h0, h1, hl, rs⟩ := rd
        obtain ⟨v, h2, h3⟩ := fld_rep (ns := ns) rs h
        exact ⟨a, _, dx, _, v, rfl, h1, (hc n hn).1, (hc n hn).2, h2, fin1 v H1 Keep.refl pk1 h3⟩
    · rw [if_neg hn] at fin1; exact False.elim fin1
  · dsimp only at fin1
    by_cases hn : (cf s1.ocls && s1.ocls != gro) = true
    · rw [if_pos hn] at fin1
      rw [Bool.and_eq_true] at hn
      have hg : s1.ocls ≠ gro := by simpa using hn.2
      replace hn := hn.1
      cases h : s1.obj.lookup f with
      | none => rw [h] at fin1; exact False.elim fin1
      | some x =>
        rw [h] at fin1
        obtain ⟨a, c, dx, ea, rfl⟩ := rd
        obtain ⟨vs, h1, ⟨hl, hcl, rfl⟩, rs⟩ := pk1.2.1 a c dx ea
        rw [show objO G s1.ocls dx (s1.obj.map (·.1)) vs = .ins (G.cls s1.ocls) dx ((s1.obj.map (·.1)).zip vs) from if_neg hg] at h1
        have h' : fldOf (s1.obj.map (·.1)) (s1.obj.map (·.2)) f = some x := by unfold fldOf; rw [zip_map]; exact h
        obtain ⟨v, h2, h3⟩ := fld_rep (ns := s1.obj.map (·.1)) rs h'
        have hx : clear x = true := by
          have : ∀ (l : List (Str × D)), clearL (l.map (·.2)) = true → l.lookup f = some x → clear x = true := by
            intro l
            induction l with
            | nil => intro _ z; cases z
            | cons y l ih =>
              intro z1 z2
              have z1 : (clear y.2 && clearL (l.map (·.2))) = true := z1
              rw [Bool.and_eq_true] at z1
              simp only [List.lookup] at z2
              split at z2
              · cases z2; exact z1.1
              · exact ih z1.2 z2
          exact this _ hcl h
        exact ⟨a, _, dx, _, v, rfl, h1, (hc _ hn).1, (hc _ hn).2, h2, fin1 v H1 Keep.refl pk1 (rep_move (G := G.bare) (G' := G) rfl rfl (fun _ _ _ z => z) x v hx h3)⟩
    · rw [if_neg hn] at fin1; exact False.elim fin1

/-! ### self.f = e within __init__ -/
def objPut (n : Nat) (f : Str) (fo fv : Loc → M D) : MS := fun ρ s => sof (fv ρ s) ρ fun d s1 => sof (fo ρ s1) ρ fun x s2 => match x with
  | .self => if (s2.ocls == n && n != gro && (s2.obj.lookup f).isNone && clear d && decide (s2.obj.length < 1000)) = true then .nx ρ { s2 with obj := s2.obj ++ [(f, d)] } else .bad
  | _ => .bad
theorem putF_new {f : Str} {y : V} : ∀ {fs : List (Str × V)}, fs.lookup f = none → putF f y fs = fs ++ [(f, y)]
  | [], _ => rfl
  | (g, x) :: r, h => by
    simp only [List.lookup] at h
    split at h
    · cases h
    · rename_i hb
      have hne : ¬ g = f := fun z => by subst z; simp at hb
      unfold putF
      rw [if_neg hne, putF_new h]
      rfl
theorem lookup_zip_none {f : Str} : ∀ {l : List (Str × D)} {vs : List V}, l.lookup f = none → ((l.map (·.1)).zip vs).lookup f = none
  | [], vs, _ => by simp
  | (g, x) :: r, [], _ => by simp
  | (g, x) :: r, v :: vs, h => by
    simp only [List.lookup] at h
    split at h
    · cases h
    · rename_i hb
      simp only [List.map_cons, List.zip_cons_cons, List.lookup, hb]
      exact lookup_zip_none h
theorem clearL_app : ∀ {xs ys : List D}, clearL (xs ++ ys) = (clearL xs && clearL ys)
  | [], ys => by simp [clearL]
  | x :: xs, ys => by simp [clearL, clearL_app (xs := xs), Bool.and_assoc]
theorem ds_objPut (n : Nat) (hc : L2.Cls X.K (G.cls n)) (hna : L2.NoAttr X.K (G.cls n) f) (ho : DE G X W o to fo) (hv : DE G X W e tv fv) (hs : swapsWith e (some (.Attribute o f pos')) pos.line X.env = pure false := by rfl) :
    DS G X W (.Assign [.Attribute o f pos'] e pos) (sFld X.K to tv f) (objPut n f fo fv) := by
  refine ⟨ps_fld ho.pe hv.pe hs, fun p σ H ρ s Z e pk fin => ?_⟩
  refine hv.run p σ H ρ s _ e pk (FinS.step fin (fun H1 s1 k1 pk1 => e.keep pk.at k1) fun d s1 v H1 k1 pk1 rd fin1 => ?_)
  have e1 := e.keep pk.at k1
  refine ho.run p σ H1 ρ s1 _ e1 pk1 (FinS.step fin1 (fun H2 s2 k2 pk2 => e1.keep pk1.at k2) fun x s2 vx H2 k2 pk2 rx fin2 => ?_)
  cases x <;> first
    | exact False.elim fin2
    | skip
  dsimp only at fin2
  split at fin2
  · rename_i hok
    simp only [Bool.and_eq_true, beq_iff_eq, Option.isNone_iff_eq_none, decide_eq_true_eq] at hok
    obtain ⟨⟨⟨⟨hn, hgn⟩, hlk⟩, hcd⟩, hlen⟩ := hok
    have hg : s2.ocls ≠ gro := by rw [hn]; simpa using hgn
    obtain ⟨a, c, dx, ea, rfl⟩ := rx
    obtain ⟨vs, h1, ⟨hl, hcl, hcc⟩, rs⟩ := pk2.2.1 a c dx ea
    subst hcc
    have ho : ∀ ns us, objO G s2.ocls dx ns us = .ins (G.cls s2.ocls) dx (ns.zip us) := fun _ _ => if_neg hg
    rw [ho] at h1
    have hz : ((s2.obj.map (·.1)).zip vs).lookup f = none := lookup_zip_none hlk
    have ha : p.out a := p.oko a _ dx ea
    refine ⟨a, _, dx, _, rfl, h1, by rw [hn]; exact hc, by rw [hn]; exact hna, by simp [hl] at hlen ⊢; omega, ?_⟩
    rw [putF_new hz]
    have hzz : (s2.obj.map (·.1)).zip vs ++ [(f, v)] = ((s2.obj ++ [(f, d)]).map (·.1)).zip (vs ++ [v]) := by
      rw [List.map_append, List.zip_append (by simpa using hl)]
      rfl
    rw [hzz]
    have kk : Keep p H2 (upd H2 a (.ins (G.cls s2.ocls) dx (((s2.obj ++ [(f, d)]).map (·.1)).zip (vs ++ [v])))) := fun b u nb eb => by
      rw [upd_ne (fun z => nb (.inr ⟨_, dx, by rw [z]; exact ea⟩))]; exact eb
    have rv : Rep G p H2 d v := rep_keep pk1.at k2 d v rd
    have pk3 : PenOk G p (upd H2 a (.ins (G.cls s2.ocls) dx (((s2.obj ++ [(f, d)]).map (·.1)).zip (vs ++ [v])))) { s2 with obj := s2.obj ++ [(f, d)] } := by
      refine ⟨fun b kd eb => ?_, fun x' c' dx' e' => ?_, fun b hb => ?_⟩
      · have hpen := pk2.1 b kd eb
        have hba : b ≠ a := Ne.symm (p.neo b kd _ _ _ eb ea)
        have hp2 : PenR p H2 b kd { s2 with obj := s2.obj ++ [(f, d)] } := hpen
        exact hp2.keep (upd_ne hba) fun c u hc eh => by rw [upd_ne (fun z => hc (by rw [z]; exact ha))]; exact eh
      · have e3 : (a, s2.ocls, dx) = (x', c', dx') := Option.some.inj (ea.symm.trans e')
        cases e3
        refine ⟨vs ++ [v], by rw [ho]; exact upd_same, ⟨by simp [hl], ?_, rfl⟩, ?_⟩
        · show clearL ((s2.obj ++ [(f, d)]).map (·.2)) = true
          rw [List.map_append, clearL_app, hcl]
          simp [clearL, hcd]
        · show RepL G.bare p _ ((s2.obj ++ [(f, d)]).map (·.2)) (vs ++ [v])
          rw [show (s2.obj ++ [(f, d)]).map (·.2) = s2.obj.map (·.2) ++ [d] by simp]
          exact repL_upd ha _ _ (repL_app (es := [d]) (us := [v]) rs ⟨v, [], rfl, rep_move (G := G) (G' := G.bare) rfl rfl (fun _ _ _ z => z) d v hcd rv, rfl⟩)
      · by_cases z : b = a
        · subst z; exact ⟨_, upd_same⟩
        · rw [upd_ne z]; exact pk2.2.2 b hb
    exact fin2 σ _ kk pk3 ((e1.keep pk1.at k2).keep pk2.at kk)
  · exact False.elim fin2

/-! ### C(..) -/
/-- the frame in which an object is made -/
def Fm.mk' (p : Fm) (x : Addr) (c : Nat) (dx : Addr) (hn : ∀ a k, p.pen = some (a, k) → x ≠ a) : Fm := ⟨p.pen, some (x, c, dx), fun b => p.out b ∨ b = x, fun b kd e => .inl (p.okp b kd e), fun y c' d' e => .inr (by cases e; rfl), fun a k y c' d' e1 e2 => by cases e2; exact hn a k e1⟩
def mkD (c : Nat) (m : List D → M D) : List D → M D := fun ds s => if (clearL ds && c != gro) = true then (match m (.self :: ds) { s with obj := [], ocls := c } with
  | .ok .non s' => .ok (.ins c (s'.obj.map (·.1)) (s'.obj.map (·.2))) { s' with obj := s.obj, ocls := s.ocls }
  | .exc c' ns xs s' => if clearL xs = true then .exc c' ns xs { s' with obj := s.obj, ocls := s.ocls } else .bad
  | _ => .bad) else .bad
/-- back from the making -/
theorem pen_back {p : Fm} {H1 H0 H' : Hp} {s s' : Pen} {x : Addr} {c : Nat} {dx : Addr} {hn : ∀ a k, p.pen = some (a, k) → x ≠ a} (pk : PenOk G p H1 s) (hx : H1 x = none) (h0 : ∀ a o, H1 a = some o → H0 a = some o) (k : Keep (p.mk' x c dx hn) H0 H') (pk' : PenOk G (p.mk' x c dx hn) H' s') :
    Keep p H1 H' ∧ PenOk G p H' { s' with obj := s.obj, ocls := s.ocls } := by
  have hk : ∀ a o, (∀ kd, p.pen ≠ some (a, kd)) → H1 a = some o → H' a = some o := fun a o n e => k a o (fun z => z.elim (fun ⟨kd, z⟩ => n kd z) fun ⟨c', d', z⟩ => by cases z; rw [hx] at e; cases e) (h0 a o e)
  have kp : Keep p H1 H' := fun a o n e => hk a o (fun kd z => n (.inl ⟨kd, z⟩)) e
  refine ⟨kp, fun a kd ea => ?_, fun y c' d' e => ?_, fun b hb => pk'.2.2 b (.inl hb)⟩
  · rcases pk'.1 a kd ea with ⟨e1, e2⟩ | ⟨c0, e1, z0, z1, z2⟩
    · exact .inl ⟨e1, e2⟩
    · exact .inr ⟨c0, e1, fun z => z0 (.inl z), z1, z2⟩
  · obtain ⟨vs, h1, hl, h2⟩ := pk.2.1 y c' d' e
    exact ⟨vs, hk y _ (fun kd z => p.neo y kd y c' d' z e rfl) h1, hl, repL_keep trivial kp _ _ h2⟩
theorem make_ok {p : Fm} {H1 : Hp} {s : Pen} {σ : L2.St} {x dx : Addr} {c n : Nat} {ds : List D} {vs : List V} {m : List D → M D} {Q : VK} (pk : PenOk G p H1 s) (rs : RepL G p H1 ds vs) (hl : ds.length = n) (hx : H1 x = none) (hd : H1 dx = none) (hne : dx ≠ x) (fin : FinG G W (RelE G) p σ H1 Q (mkD c m ds s)) :
    spM G (n + 1) m (.ref x :: vs) (upd (upd H1 dx (.own x)) x (.ins (G.cls c) dx [])) (fun v H2 => v = .non ∧ Q (.ref x) H2) (WE W σ) := by
  unfold mkD at fin
  by_cases hcn : ¬ (clearL ds && c != gro) = true
  · rw [if_neg hcn] at fin; exact False.elim fin
  have hc0 : (clearL ds && c != gro) = true := Decidable.not_not.mp hcn
  rw [if_pos hc0] at fin
  rw [Bool.and_eq_true] at hc0
  have hc := hc0.1
  have hg : c ≠ gro := by simpa using hc0.2
  have hn : ∀ a k, p.pen = some (a, k) → x ≠ a := fun a k ea z => by
    obtain ⟨o, eo⟩ := pk.2.2 a (p.okp a k ea)
    rw [← z, hx] at eo; cases eo
  have hx' : upd H1 dx (.own x) x = none := by rw [upd_ne (Ne.symm hne)]; exact hx
  have h0 : ∀ a o, H1 a = some o → upd (upd H1 dx (.own x)) x (.ins (G.cls c) dx []) a = some o := fun a o e => by rw [upd_ne (ne_of_none e hx), upd_ne (ne_of_none e hd)]; exact e
  have hw : ∀ a o, H1 a = some o → ¬ p.out a → ¬ (p.mk' x c dx hn).out a := fun a o e n z => z.elim n fun z => ne_of_none e hx z
  have rs0 : RepL G (p.mk' x c dx hn) (upd (upd H1 dx (.own x)) x (.ins (G.cls c) dx [])) ds vs := repL_keep trivial (fun a o _ e => h0 a o e) _ _ (repL_move (G := G) (G' := G) (p := p) (q := p.mk' x c dx hn) rfl rfl hw _ _ hc rs)
  have pk0 : PenOk G (p.mk' x c dx hn) (upd (upd H1 dx (.own x)) x (.ins (G.cls c) dx [])) { s with obj := [], ocls := c } := by
    refine ⟨fun a kd ea => ?_, fun y c' d' e => ?_, fun b hb => ?_⟩
    · rcases pk.1 a kd ea with ⟨e1, e2⟩ | ⟨c0, e1, z0, z1, z2⟩
      · exact .inl ⟨e1, h0 _ _ e2⟩
      · exact .inr ⟨c0, e1, hw _ _ z2 z0, h0 _ _ z1, h0 _ _ z2⟩
    · cases e
      exact ⟨[], by show _ = some (objO G c dx [] []); rw [show objO G c dx [] [] = .ins (G.cls c) dx [] from if_neg hg]; exact upd_same, ⟨rfl, rfl, rfl⟩, rfl⟩
    · rcases hb with hb | hb
      · obtain ⟨o, e⟩ := pk.2.2 b hb
        exact ⟨o, h0 b o e⟩
      · subst hb; exact ⟨_, upd_same⟩
  refine ⟨by rw [List.length_cons, ← repL_len rs, hl], p.mk' x c dx hn, .self :: ds, { s with obj := [], ocls := c }, ⟨.ref x, vs, rfl, ⟨x, c, dx, rfl, rfl⟩, rs0⟩, pk0, ?_⟩
  cases q : m (.self :: ds) { s with obj := [], ocls := c } with
  | bad => rw [q] at fin; exact False.elim fin
  | exc c' ns xs s' =>
    rw [q] at fin
    dsimp only at fin
    by_cases hxs : clearL xs = true
    · rw [if_pos hxs] at fin
      intro dd H' k pk' xk
      obtain ⟨kp, pkp⟩ := pen_back pk hx h0 k pk'
      refine fin dd H' kp pkp ?_
      obtain ⟨us, ru, xd⟩ := xk
      refine ⟨us, repL_move (G := G) (G' := G) (p := p.mk' x c dx hn) (q := p) rfl rfl (fun a o _ z y => z (.inl y)) _ _ hxs ru, ?_⟩
      rcases xd with xd | ⟨b, gs, e0, e1, e2, e3, e4⟩
      · exact .inl xd
      · exact .inr ⟨b, gs, e0, e1, fun z => e2 (.inl z), e3, e4⟩
    · rw [if_neg hxs] at fin; exact False.elim fin
  | ok d s' =>
    rw [q] at fin
    cases d <;> first
      | exact False.elim fin
      | skip
    intro v H' k pk' rv
    obtain ⟨kp, pkp⟩ := pen_back pk hx h0 k pk'
    obtain ⟨us, z1, ⟨zl, zc, _⟩, zr⟩ := pk'.2.1 x c dx rfl
    rw [show objO G c dx (s'.obj.map (·.1)) us = .ins (G.cls c) dx ((s'.obj.map (·.1)).zip us) from if_neg hg] at z1
    exact ⟨rv, fin _ H' kp pkp ⟨x, dx, us, rfl, pk.free hx, z1, by simpa using zl, repL_move (G := G.bare) (G' := G) (p := p.mk' x c dx hn) (q := p) rfl rfl (fun a o _ z y => z (.inl y)) _ _ zc zr⟩⟩
def tMakeS (C : Addr) (sp : Sp) (dvs : List V) (E : L2.St → XK) (t : TA) : TE := fun σ H Q => t σ H fun vs H1 => ∀ x dx, H1 x = none → H1 dx = none → dx ≠ x →
  sp (.ref x :: (vs ++ dvs)) (upd (upd H1 dx (.own x)) x (.ins C dx [])) (fun v H2 => v = .non ∧ Q (.ref x) H2) (E σ)
theorem pe_makeS {k : Nat} {C g : Addr} {fd : FuncData} {ps : List Str} {sp : Sp} {dvs : List V} {dl : List Value} {E : L2.St → XK} {x : Str} {p : Pos} {t : TA} (M : L2.Mk X.K C g) (F : FnOk X.prog X.w X.K X.mg X.base (L2.CX X.prog X.w) k g fd ps sp) (hr : Room (k + 1) X.A) (hg : Gl X x) (hm : X.mg x = some (.ref C)) (hb : L2.Binds X.K fd ps dl) (hd : Vals dvs dl) (hx : ∀ σ, PassesAt (L2.CX X.prog X.w) X σ (E σ))
    (ha : PA X (e :: es) t) (hdb : (x == ("__debug__" : Str)) = false := by decide) (he : starEach (e :: es) X.env = (false, eval e X.env) :: starEach es X.env := by rfl) (hpl : (backTo pos (starEach es X.env)).any (·.1) = false := by rfl) :
    PE X (.Call (.Name x p) (e :: es) [] pos) (tMakeS C sp dvs E t) := by
  refine ⟨fun pins s σ H Q I h => ?_⟩
  refine wpAny_Call_Name_kw (ld_glob I hg hm ?_ hdb)
  refine PySem.W.callWith_K (h₀ := X.base) I.ok.mod.kin M.kp (thn (ha.run pos pins s σ H _ I h) fun us s1 ⟨vs, H1, I1, r, q⟩ => ⟨I1.kIn, ?_⟩) he hpl
  have hq := q (s1.heap.objs.size + 1) s1.heap.objs.size (I1.hok.fresh (Nat.le_succ _)) (I1.hok.fresh (Nat.le_refl _)) (Nat.ne_of_lt (Nat.lt_succ_self _))
  have I2 := Inv.made (C := C) I1
  have r2 : Vals (V.ref (s1.heap.objs.size + 1) :: (vs ++ dvs)) (Value.ref (s1.heap.objs.size + 1) :: (us ++ dl)) := .cons rfl (r.append hd)
  have hl : (Value.ref (s1.heap.objs.size + 1) :: us ++ dl).length = ps.length := by
    have e := r2.length
    rw [F.len _ _ _ _ hq] at e
    exact e.symm
  refine wpAny_call (make_map (f := g) I1.kIn M.makes M.init (beq_iff_eq.mp M.fn) (codeAny_mono (F.run _ X.stack _ _ ⟨Value.ref (s1.heap.objs.size + 1) :: us, []⟩ (Value.ref (s1.heap.objs.size + 1) :: (us ++ dl)) _ _ (E σ) (hr.make C us [])
    (I2.env0.make C us []) (hb _ (Value.ref (s1.heap.objs.size + 1) :: us) I2.kIn hl) r2 hq) fun r s' hq' => ?_))
  cases r with
  | error er => exact hx σ pins _ _ er s' I2 hq'
  | ok fl =>
    cases fl with
    | ret u =>
      obtain ⟨v, H', I3, rv, ev, q3⟩ := I2.after hq'
      subst ev
      exact ⟨rv, ⟨V.ref (s1.heap.objs.size + 1), H', I3, rfl, q3⟩⟩
    | next => exact False.elim hq'
    | brk => exact False.elim hq'
    | cont => exact False.elim hq'
/-- what of a class is wanted to make one: its record, its __init__ -/
structure MkC (K : PySem.W.Frag) (mg : Str → Option Value) (x : Str) (C fI : Addr) (fd : FuncData) (ps : List Str) (dl : List Value) : Prop where
  made : L2.Mk K C fI
  m : mg x = some (.ref C)
  bd : L2.Binds K fd ps dl
theorem x_make {k n : Nat} {c : Nat} {g : Addr} {fd : FuncData} {ps : List Str} {dd : List D} {dvs : List V} {dl : List Value} {m : List D → M D} {x : Str} {p : Pos} (M : MkC X.K X.mg x (G.cls c) g fd ps dl) (F : FnOk X.prog X.w X.K X.mg X.base (L2.CX X.prog X.w) k g fd ps (spM G (n + 1) m)) (hr : Room (k + 1) X.A) (tk : Takes X W) (hd : Vals dvs dl) (hdd : ∀ p H, RepL G p H dd dvs)
    (ha : DA G X W (e :: es) tA fA) {j : Nat} (hl : LenA fA j) (hj : j + dd.length = n) (hg : Gl X x := by rfl) (hdb : (x == ("__debug__" : Str)) = false := by decide) (he : starEach (e :: es) X.env = (false, eval e X.env) :: starEach es X.env := by rfl) (hpl : (backTo pos (starEach es X.env)).any (·.1) = false := by rfl) :
    DE G X W (.Call (.Name x p) (e :: es) [] pos) (tMakeS (G.cls c) (spM G (n + 1) m) dvs (WE W) tA) (fun ρ => mbind (fA ρ) fun ds => mkD c m (ds ++ dd)) := by
  refine ⟨pe_makeS M.made F hr hg M.m M.bd hd (fun σ => passAt tk σ) ha.pa hdb he hpl, fun p σ H ρ s Q e pk fin => ?_⟩
  have fin' : FinG G W (RelE G) p σ H Q (obind (fA ρ s) fun ds => mkD c m (ds ++ dd)) := fin
  refine ha.run p σ H ρ s _ e pk ?_
  cases h : fA ρ s with
  | ok ds s1 =>
    rw [h] at fin'
    intro vs H1 k1 pk1 rs x dx hx hdx hne
    exact make_ok pk1 (repL_app rs (hdd p H1)) (by rw [List.length_append, hl ρ s ds s1 h]; exact hj) hx hdx hne (FinG.keep k1 fin')
  | exc c ns xs s1 => rw [h] at fin'; exact fin'
  | bad => rw [h] at fin'; exact fin'
end
end Tw

set_option Elab.async false
set_option linter.all false
set_option maxRecDepth 100000
set_option maxHeartbeats 4000000
set_option autoImplicit false
namespace Tw
open PySem L2 PySem.Spec PyProof.Rows
section
variable {K : PySem.W.Frag} {G : Gt} {W : WX} {X : Cx}
variable {a b c e o : Expr} {es : List Expr} {ta te to tv : TE} {fa fe fo fv : Loc → M D} {pos pos' apos : Pos} {tA : TA} {fA : Loc → M (List D)} {f m : Str}

/-! ### o.m(..) -/
def isI (n : Nat) (m : Str) : D → M Unit := fun d => match d with
  | .ins k ns _ => if (k == n && !ns.contains m) = true then mret () else mbad
  | _ => mbad
theorem lookup_zip_no {m : Str} : ∀ {ns : List Str} {vs : List V}, ns.contains m = false → (ns.zip vs).lookup m = none
  | [], vs, _ => by simp
  | n :: ns, [], _ => by simp
  | n :: ns, v :: vs, h => by
    simp only [List.contains_cons, Bool.or_eq_false_iff] at h
    simp only [List.zip_cons_cons, List.lookup, h.1]
    exact lookup_zip_no h.2
theorem isI_of {p : Fm} {H : Hp} {n : Nat} {m : Str} {d : D} {v : V} {s s' : Pen} {u : Unit} (h : isI n m d s = .ok u s') (r : Rep G p H d v) : s' = s ∧ ∃ a dx fs, v = .ref a ∧ ¬ p.out a ∧ H a = some (.ins (G.cls n) dx fs) ∧ fs.lookup m = none := by
  unfold isI at h
  cases d <;> first
    | (cases h; done)
    | skip
  rename_i k ns xs
  dsimp only at h
  split at h
  · rename_i hk
    rw [Bool.and_eq_true, Bool.not_eq_true'] at hk
    obtain ⟨hk1, hk2⟩ := hk
    obtain rfl : k = n := beq_iff_eq.mp hk1
    cases h
    obtain ⟨a, dx, vs, rfl, h0, h1, hl, rs⟩ := r
    exact ⟨rfl, a, dx, _, rfl, h0, h1, lookup_zip_no hk2⟩
  · cases h
theorem isI_not {n : Nat} {m : Str} {d : D} {s : Pen} : (∃ u s', isI n m d s = .ok u s') ∨ isI n m d s = .bad := by
  unfold isI
  cases d <;> try (exact .inr rfl)
  dsimp only
  split
  · exact .inl ⟨(), s, rfl⟩
  · exact .inr rfl
def tMethV (C : Addr) (m : Str) (sp : Sp) (dvs : List V) (E : L2.St → XK) (ta : TE) (t : TA) : TE := fun σ H Q => ta σ H fun x H1 => ∃ a dx fs, x = .ref a ∧ H1 a = some (.ins C dx fs) ∧ fs.lookup m = none ∧ t σ H1 fun vs H2 => sp (x :: (vs ++ dvs)) H2 Q (E σ)
section
variable {CX : CXT} {k : Nat} {C g : Addr} {fd : FuncData} {ps : List Str} {sp : Sp} {dvs : List V} {dl : List Value} {E : L2.St → XK} {t : TA} {pl : Sem Bool}
theorem pe_methV (he : PE X o ta) (c : L2.Cls X.K C) (hm : L2.Meth X.K C m g) (F : FnOk X.prog X.w X.K X.mg X.base CX k g fd ps sp) (hr : Room k X.A) (hb : L2.Binds X.K fd ps dl) (hd : Vals dvs dl) (hx : ∀ σ, PassesAt CX X σ (E σ)) (ha : PA X (e :: es) t)
    (hst : starEach (e :: es) X.env = (false, eval e X.env) :: starEach es X.env := by rfl) (hpl : (backTo pos (starEach es X.env)).any (·.1) = false := by rfl)
    (ht : eval (.Call (.Attribute o m apos) (e :: es) [] pos) X.env = (do
      let ov ← eval o X.env
      standAt apos.atName
      let (f, first) ← holding [ov] (getMethod ov m pl)
      callWith pos f first (backTo pos (starEach (e :: es) X.env)) (backToKw pos (keywordEach [] X.env))) := by rfl) :
    PE X (.Call (.Attribute o m apos) (e :: es) [] pos) (tMethV C m sp dvs E ta t) := by
  refine ⟨fun pins s σ H Q I h => ?_⟩
  refine PySem.W.methodCall_KW (pl := pl) (thn (he.run pins s σ H _ I h) fun u s1 ⟨x, H1, I1, rx, a, dx, fs, ex, ea, l, q⟩ => ?_) ht
  subst ex
  obtain rfl : u = Value.ref a := rx
  refine getmeth_ok I1 ea c hm l ?_
  refine PySem.W.callWith_K (first := [.ref a]) (h₀ := X.base) I.ok.mod.kin hm.kp (thn (ha.run pos pins s1 σ H1 _ I1 q) fun us s2 ⟨vs, H2, I2, r, q2⟩ => ⟨I2.kIn, ?_⟩) hst hpl
  exact run_fnSD (E := E) (us := .ref a :: us) (vs := .ref a :: vs) F hr hb hd (hx σ) I2 (.cons rfl r) q2
theorem pe_methV0 (he : PE X o ta) (c : L2.Cls X.K C) (hm : L2.Meth X.K C m g) (F : FnOk X.prog X.w X.K X.mg X.base CX k g fd ps sp) (hr : Room k X.A) (hb : L2.Binds X.K fd ps dl) (hd : Vals dvs dl) (hx : ∀ σ, PassesAt CX X σ (E σ))
    (ht : eval (.Call (.Attribute o m apos) [] [] pos) X.env = (do
      let ov ← eval o X.env
      standAt apos.atName
      let (f, first) ← holding [ov] (getMethod ov m pl)
      callWith pos f first (backTo pos (starEach [] X.env)) (backToKw pos (keywordEach [] X.env))) := by rfl) :
    PE X (.Call (.Attribute o m apos) [] [] pos) (tMethV C m sp dvs E ta tNil) := by
  refine ⟨fun pins s σ H Q I h => ?_⟩
  refine PySem.W.methodCall_KW (pl := pl) (thn (he.run pins s σ H _ I h) fun u s1 ⟨x, H1, I1, rx, a, dx, fs, ex, ea, l, q⟩ => ?_) ht
  subst ex
  obtain rfl : u = Value.ref a := rx
  refine getmeth_ok I1 ea c hm l ?_
  exact PySem.W.callWith_K0 (first := [.ref a]) I1.kIn hm.kp (run_fnSD (E := E) (us := [.ref a]) (vs := [.ref a]) F hr hb hd (hx σ) I1 (.cons rfl .nil) q)
end
/-- a method of an own class -/
structure Mtd (K : PySem.W.Frag) (C : Addr) (m : Str) (ps : List Str) (dl : List Value) (g : Addr) (fd : FuncData) : Prop where
  c : L2.Cls K C
  at_ : L2.Meth K C m g
  b : L2.Binds K fd ps dl
def kMeth (n : Nat) (m : Str) (md : List D → M D) (dd : List D) (fo : Loc → M D) (fA : Loc → M (List D)) : Loc → M D := fun ρ => mbind (fo ρ) fun d => mbind (isI n m d) fun _ => mbind (fA ρ) fun ds => md (d :: (ds ++ dd))
theorem run_meth {n j N : Nat} {md : List D → M D} {dd : List D} {dvs : List V} (hdd : ∀ p H, RepL G p H dd dvs) (ho : RunG G W (RelE G) to fo) (ha : RunG G W (RelA G) tA fA) (hl : LenA fA j) (hj : j + dd.length + 1 = N) :
    RunG G W (RelE G) (tMethV (G.cls n) m (spM G N md) dvs (WE W) to tA) (kMeth n m md dd fo fA) := by
  intro p σ H ρ s Q e pk fin
  refine ho p σ H ρ s _ e pk (FinG.step (RA := RelE G) fin fun d s1 v H1 k1 pk1 rd fin1 => ?_)
  have fin3 : FinG G W (RelE G) p σ H1 Q (obind (isI n m d s1) fun _ => mbind (fA ρ) fun ds => md (d :: (ds ++ dd))) := fin1
  rcases isI_not (n := n) (m := m) (d := d) (s := s1) with ⟨u, s2, h⟩ | h
  · rw [h] at fin3
    obtain ⟨rfl, x, dx, fs, rfl, hx0, hx, hlk⟩ := isI_of h rd
    refine ⟨x, dx, fs, rfl, hx, hlk, ?_⟩
    have fin2 : FinG G W (RelE G) p σ H1 Q (obind (fA ρ s2) fun ds => md (d :: (ds ++ dd))) := fin3
    refine ha p σ H1 ρ s2 _ (e.keep pk.at k1) pk1 ?_
    cases h2 : fA ρ s2 with
    | ok ds s3 =>
      rw [h2] at fin2
      intro vs H2 k2 pk2 rs
      have hlen : (ds ++ dd).length + 1 = N := by rw [List.length_append, hl ρ s2 ds s3 h2]; exact hj
      have rr : RepL G p H2 (ds ++ dd) (vs ++ dvs) := repL_app rs (hdd p H2)
      exact ⟨by rw [List.length_cons, ← repL_len rr]; exact hlen, p, d :: (ds ++ dd), s3, ⟨.ref x, vs ++ dvs, rfl, rep_keep pk1.at k2 d _ rd, rr⟩, pk2, (FinG.keep k2 fin2).wx fun _ _ _ z => z⟩
    | exc c ns xs s3 => rw [h2] at fin2; exact fin2
    | bad => rw [h2] at fin2; exact fin2
  · rw [h] at fin3; exact False.elim fin3
theorem x_meth {k n j N : Nat} {g : Addr} {fd : FuncData} {ps : List Str} {md : List D → M D} {dd : List D} {dvs : List V} {dl : List Value} (M : Mtd X.K (G.cls n) m ps dl g fd) (F : FnOk X.prog X.w X.K X.mg X.base (L2.CX X.prog X.w) k g fd ps (spM G N md)) (hr : Room k X.A) (tk : Takes X W) (hd : Vals dvs dl) (hdd : ∀ p H, RepL G p H dd dvs)
    (ho : DE G X W o to fo) (ha : DA G X W (e :: es) tA fA) (hl : LenA fA j) (hj : j + dd.length + 1 = N)
    (hst : starEach (e :: es) X.env = (false, eval e X.env) :: starEach es X.env := by rfl) (hpl : (backTo pos (starEach es X.env)).any (·.1) = false := by rfl) {pl : Sem Bool}
    (ht : eval (.Call (.Attribute o m apos) (e :: es) [] pos) X.env = (do
      let ov ← eval o X.env
      standAt apos.atName
      let (f, first) ← holding [ov] (getMethod ov m pl)
      callWith pos f first (backTo pos (starEach (e :: es) X.env)) (backToKw pos (keywordEach [] X.env))) := by rfl) :
    DE G X W (.Call (.Attribute o m apos) (e :: es) [] pos) (tMethV (G.cls n) m (spM G N md) dvs (WE W) to tA) (kMeth n m md dd fo fA) :=
  ⟨pe_methV ho.pe M.c M.at_ F hr M.b hd (fun σ => passAt tk σ) ha.pa hst hpl ht, run_meth hdd ho.run ha.run hl hj⟩
theorem x_meth0 {k n N : Nat} {g : Addr} {fd : FuncData} {ps : List Str} {md : List D → M D} {dd : List D} {dvs : List V} {dl : List Value} (M : Mtd X.K (G.cls n) m ps dl g fd) (F : FnOk X.prog X.w X.K X.mg X.base (L2.CX X.prog X.w) k g fd ps (spM G N md)) (hr : Room k X.A) (tk : Takes X W) (hd : Vals dvs dl) (hdd : ∀ p H, RepL G p H dd dvs)
    (ho : DE G X W o to fo) (hj : 0 + dd.length + 1 = N) {pl : Sem Bool}
    (ht : eval (.Call (.Attribute o m apos) [] [] pos) X.env = (do
      let ov ← eval o X.env
      standAt apos.atName
      let (f, first) ← holding [ov] (getMethod ov m pl)
      callWith pos f first (backTo pos (starEach [] X.env)) (backToKw pos (keywordEach [] X.env))) := by rfl) :
    DE G X W (.Call (.Attribute o m apos) [] [] pos) (tMethV (G.cls n) m (spM G N md) dvs (WE W) to tNil) (kMeth n m md dd fo aNil) :=
  ⟨pe_methV0 ho.pe M.c M.at_ F hr M.b hd (fun σ => passAt tk σ) ht, run_meth hdd ho.run (a_nil (X := X)).run l_nil hj⟩

/-! ### where nothing is let out -/
theorem FinG.calm {α β : Type} {W' : WX} {R : Fm → Hp → α → β → Prop} {p : Fm} {σ σ' : L2.St} {H : Hp} {s : Pen} {Q : β → Hp → Prop} {md : M α} (h : FinG G W R p σ H Q (nox md s)) : FinG G W' R p σ' H Q (md s) := by
  unfold nox at h
  cases q : md s with
  | ok a s1 => rw [q] at h; exact h
  | exc c ns xs s1 => rw [q] at h; exact False.elim h
  | bad => rw [q] at h; exact h
/-- a property of an own class -/
structure Prp (K : PySem.W.Frag) (C : Addr) (m : Str) (ps : List Str) (pr g : Addr) (fd : FuncData) : Prop where
  c : L2.Cls K C
  at_ : PropOf K C m pr g
  b : L2.Binds K fd ps []
def kProp (n : Nat) (m : Str) (md : List D → M D) (fo : Loc → M D) : Loc → M D := fun ρ => mbind (fo ρ) fun d => mbind (isI n m d) fun _ => nox (md [d])
theorem x_prop {k n : Nat} {pr g : Addr} {fd : FuncData} {ps : List Str} {md : List D → M D} (M : Prp X.K (G.cls n) m ps pr g fd) (F : FnOk X.prog X.w X.K X.mg X.base (L2.CX X.prog X.w) k g fd ps (spM G 1 md)) (hr : Room (k + 1) X.A) (ho : DE G X W o to fo)
    (hab : attributeBase o m X.env (eval o X.env) = eval o X.env := by rfl) : DE G X W (.Attribute o m pos) (tProp (G.cls n) (spM G 1 md) [] (fun _ _ _ => False) to) (kProp n m md fo) := by
  refine ⟨pe_prop ho.pe M.c M.at_ F hr M.b .nil passL hab, fun p σ H ρ s Q e pk fin => ?_⟩
  refine ho.run p σ H ρ s _ e pk (FinG.step (RA := RelE G) fin fun d s1 v H1 k1 pk1 rd fin1 => ?_)
  have fin3 : FinG G W (RelE G) p σ H1 Q (obind (isI n m d s1) fun _ => nox (md [d])) := fin1
  rcases isI_not (n := n) (m := m) (d := d) (s := s1) with ⟨u, s2, h⟩ | h
  · rw [h] at fin3
    obtain ⟨rfl, x, dx, fs, rfl, hx0, hx, hlk⟩ := isI_of h rd
    exact ⟨x, dx, fs, rfl, hx, rfl, p, [d], s2, ⟨.ref x, [], rfl, rd, rfl⟩, pk1, FinG.calm (md := md [d]) fin3⟩
  · rw [h] at fin3; exact False.elim fin3
/-- a classmethod of an own class, by the class's name -/
structure Cmt (K : PySem.W.Frag) (C : Addr) (m : Str) (ps : List Str) (dl : List Value) (mc : Value) (pr g : Addr) (fd : FuncData) : Prop where
  rd : ClX.CRead K C mc
  at_ : ClX.CMet K C mc m pr g
  b : L2.Binds K fd ps dl
def kCmt (c : Nat) (md : List D → M D) (dd : List D) (fo : Loc → M D) (fA : Loc → M (List D)) : Loc → M D := fun ρ => mbind (fo ρ) fun d => match d with
  | .cls k => if (k == c) = true then mbind (fA ρ) fun ds => nox (md (.cls c :: (ds ++ dd))) else mbad
  | _ => mbad
theorem x_cmt {k c j N : Nat} {mc : Value} {pr g : Addr} {fd : FuncData} {ps : List Str} {md : List D → M D} {dd : List D} {dvs : List V} {dl : List Value} (M : Cmt X.K (G.cls c) m ps dl mc pr g fd) (F : FnOk X.prog X.w X.K X.mg X.base (L2.CX X.prog X.w) k g fd ps (spM G N md)) (hr : Room k X.A) (hd : Vals dvs dl) (hdd : ∀ p H, RepL G p H dd dvs)
    (ho : DE G X W o to fo) (ha : DA G X W (e :: es) tA fA) (hl : LenA fA j) (hj : j + dd.length + 1 = N)
    (hst : starEach (e :: es) X.env = (false, eval e X.env) :: starEach es X.env := by rfl) (hpl : (backTo pos (starEach es X.env)).any (·.1) = false := by rfl) {pl : Sem Bool}
    (ht : eval (.Call (.Attribute o m apos) (e :: es) [] pos) X.env = (do
      let ov ← eval o X.env
      standAt apos.atName
      let (f, first) ← holding [ov] (getMethod ov m pl)
      callWith pos f first (backTo pos (starEach (e :: es) X.env)) (backToKw pos (keywordEach [] X.env))) := by rfl) :
    DE G X W (.Call (.Attribute o m apos) (e :: es) [] pos) (ClX.tCMeth (G.cls c) (fun vs H Q E => spM G N md (vs ++ dvs) H Q E) (fun _ _ _ => False) to tA) (kCmt c md dd fo fA) := by
  refine ⟨ClX.pe_cmeth ho.pe M.rd M.at_ (F.raw M.b hd) hr passL ha.pa hst hpl ht, fun p σ H ρ s Q e pk fin => ?_⟩
  refine ho.run p σ H ρ s _ e pk (FinG.step (RA := RelE G) fin fun d s1 v H1 k1 pk1 rd fin1 => ?_)
  cases d <;> try (exact False.elim fin1)
  rename_i kk
  dsimp only at fin1
  by_cases hk : (kk == c) = true
  · rw [if_pos hk] at fin1
    obtain rfl : kk = c := beq_iff_eq.mp hk
    refine ⟨rd, ?_⟩
    have fin2 : FinG G W (RelE G) p σ H1 Q (obind (fA ρ s1) fun ds => nox (md (.cls kk :: (ds ++ dd)))) := fin1
    refine ha.run p σ H1 ρ s1 _ (e.keep pk.at k1) pk1 ?_
    cases h2 : fA ρ s1 with
    | ok ds s3 =>
      rw [h2] at fin2
      intro vs H2 k2 pk2 rs
      have hlen : (ds ++ dd).length + 1 = N := by rw [List.length_append, hl ρ s1 ds s3 h2]; exact hj
      have rr : RepL G p H2 (ds ++ dd) (vs ++ dvs) := repL_app rs (hdd p H2)
      exact ⟨by rw [List.cons_append, List.length_cons, ← repL_len rr]; exact hlen, p, .cls kk :: (ds ++ dd), s3, ⟨.ref (G.cls kk), vs ++ dvs, rfl, rfl, rr⟩, pk2, FinG.calm (FinG.keep k2 fin2)⟩
    | exc c ns xs s3 => rw [h2] at fin2; exact fin2
    | bad => rw [h2] at fin2; exact fin2
  · rw [if_neg hk] at fin1; exact False.elim fin1
end
end Tw

set_option Elab.async false
set_option linter.all false
set_option maxRecDepth 100000
set_option maxHeartbeats 4000000
set_option autoImplicit false
namespace Tw
open PySem L2 PySem.Spec PyProof.Rows
/-! ### own operators -/
section
variable {prog : Program} {w : World} {A : Around} {E : Value → Shared → Prop} {s : Shared} {K : PySem.W.Frag} {x y C f : Addr} {ox oy : Obj} {od oe : Option Obj}
open PySem.W in
theorem bin_same {op : Operator} {Q : Value → Shared → Prop} (X : K.In s.heap) (I : PySem.W.InstAt s.heap x ox C od) (J : PySem.W.InstAt s.heap y oy C oe) (hc : selfFirst K C = true)
    (hs : findIn K (.ref C) (PySem.dunder op.info.2) = some (some (.ref f))) (hf : isFn K (.ref f) = true)
    (h : wpAny (model prog w) A (call (.ref f) [.ref x, .ref y]) (PySem.W.CmpBack Q) E s) : wpAny (model prog w) A (binaryOp op (.ref x) (.ref y)) Q E s := by
  obtain ⟨cd, rest, hcd, hm⟩ := ksp_first hc
  rcases hi : op.info with ⟨sym, nm'⟩
  rw [hi] at hs
  dsimp only at hs
  have one := ksp_try X I hs hf h
  obtain ⟨hh, g, d, tt, os⟩ := s
  have L1 : Looks (model prog w) hh (typeOf (.ref x)) (.ref C) := I.type
  have L2 : Looks (model prog w) hh (typeOf (.ref y)) (.ref C) := J.type
  have L3 : Looks (model prog w) hh (fillsNumberSlot (.ref C) nm') true := fills_K X hcd hm hs
  simp only [binaryOp, hi]
  refine wpAny_holding (wpAny_bind ?_)
  unfold binaryOp1
  refine wpAny_bind (L1.at (wpAny_bind (L2.at (wpAny_bind (L3.at ?_)))))
  simp only [beq_self_eq_true, if_true]
  ksp_lk
  refine wpAny_mono one (fun r s' hr' => ?_) fun _ _ e => e
  obtain ⟨v, rfl, hq⟩ := hr'
  ksp_lk
  exact hq
end
section
variable {K : PySem.W.Frag} {G : Gt} {W : WX} {X : Cx}
/-- what is handed back by a def is no NotImplemented -/
theorem back_of {pins : List (Addr × Obj)} {σ : L2.St} {Q : VK} {v : Value} {s : Shared} (h : EP X pins σ Q v s) : PySem.W.CmpBack (EP X pins σ Q) v s := by
  obtain ⟨u, H, I, r, q⟩ := h
  unfold PySem.W.CmpBack
  cases v <;> first
    | exact ⟨u, H, I, r, q⟩
    | (cases u <;> first
        | (cases r; done)
        | (obtain ⟨t, e⟩ := r; cases e; done))
/-- an own operator of a class -/
structure Opr (K : PySem.W.Frag) (C : Addr) (op : Operator) (g : Addr) (fd : FuncData) (ps : List Str) : Prop where
  first : PySem.W.selfFirst K C = true
  at_ : PySem.W.findIn K (.ref C) (PySem.dunder op.info.2) = some (some (.ref g))
  isf : PySem.W.isFn K (.ref g) = true
  b : L2.Binds K fd ps []
/-- .. its right hand a whole number -/
structure OprI (K : PySem.W.Frag) (C : Addr) (op : Operator) : Prop where
  r : PySem.W.findIn K (.ref C) (dunderR op.info.2) = some none
  h1 : ∃ fo, PySem.W.findIn K (.type "int") (PySem.dunder op.info.2) = some fo
  h2 : ∃ ro, PySem.W.findIn K (.type "int") (dunderR op.info.2) = some ro
  sub : PySem.W.subIn K (.type "int") (.ref C) = some false
def rOwn (C : Addr) (sp : Sp) : R2 := fun x y H Q => ∃ a dx fs b dy gs, x = .ref a ∧ y = .ref b ∧ H a = some (.ins C dx fs) ∧ H b = some (.ins C dy gs) ∧ sp [x, y] H Q (fun _ _ _ => False)
def rOwnI (C : Addr) (sp : Sp) : R2 := fun x y H Q => ∃ a dx fs i, x = .ref a ∧ y = .int i ∧ H a = some (.ins C dx fs) ∧ sp [x, y] H Q (fun _ _ _ => False)
def rNeg (C : Addr) (sp : Sp) : V → Hp → VK → Prop := fun x H Q => ∃ a dx fs, x = .ref a ∧ H a = some (.ins C dx fs) ∧ sp [x] H Q (fun _ _ _ => False)
variable {op : Operator} {C g : Addr} {qual : Str} {st : Stmt} {fd : FuncData} {ps : List Str} {k : Nat} {sp : Sp}
theorem inst_of {pins : List (Addr × Obj)} {σ : L2.St} {H : Hp} {s : Shared} {a dx : Addr} {fs : List (Str × V)} (I : Inv X pins σ H s) (ea : H a = some (.ins C dx fs)) : ∃ ox od, PySem.W.InstAt s.heap a ox C od := by
  obtain ⟨mA, O, _, _, _, _⟩ := ins_get I.hok ea
  obtain ⟨od, J, _⟩ := O.look
  exact ⟨_, _, J⟩
theorem op_own (M : Opr X.K C op g fd ps) (F : FnOk X.prog X.w X.K X.mg X.base (L2.CX X.prog X.w) k g fd ps sp) (hr : Room k X.A) : OpR X (binaryOp op) (rOwn C sp) := by
  intro pins s σ H x y v u Q I rx ry h
  obtain ⟨a, dx, fs, b, dy, gs, rfl, rfl, ha, hb, q⟩ := h
  obtain rfl : v = Value.ref a := rx
  obtain rfl : u = Value.ref b := ry
  obtain ⟨ox, od, J⟩ := inst_of I ha
  obtain ⟨oy, oe, J'⟩ := inst_of I hb
  exact bin_same I.kIn J J' M.first M.at_ M.isf (wpAny_mono (run_fn (us := [.ref a, .ref b]) (vs := [.ref a, .ref b]) (dvs := []) F hr M.b .nil passL I (.cons rfl (.cons rfl .nil)) q) (fun _ _ z => back_of z) fun _ _ z => z)
theorem op_ownI (M : Opr X.K C op g fd ps) (N : OprI X.K C op) (F : FnOk X.prog X.w X.K X.mg X.base (L2.CX X.prog X.w) k g fd ps sp) (hr : Room k X.A) : OpR X (binaryOp op) (rOwnI C sp) := by
  intro pins s σ H x y v u Q I rx ry h
  obtain ⟨a, dx, fs, i, rfl, rfl, ha, q⟩ := h
  obtain rfl : v = Value.ref a := rx
  obtain ⟨t, rfl⟩ := ry
  obtain ⟨ox, od, J⟩ := inst_of I ha
  obtain ⟨fo, h1⟩ := N.h1
  obtain ⟨ro, h2⟩ := N.h2
  obtain ⟨m, F0⟩ := I.fr
  exact PySem.W.ksp_binT (T := "int") F0 I.ok.mod.kin J rfl M.first M.at_ M.isf N.r (.inl rfl) h1 h2 N.sub (wpAny_mono (run_fn (us := [.ref a, .int i t]) (vs := [.ref a, .int i]) (dvs := []) F hr M.b .nil passL I (.cons rfl (.cons ⟨t, rfl⟩ .nil)) q) (fun _ _ z => back_of z) fun _ _ z => z)
/-- -e of an own class -/
structure Ong (K : PySem.W.Frag) (C : Addr) (g : Addr) (fd : FuncData) (ps : List Str) : Prop where
  at_ : PySem.W.findIn K (.ref C) "__neg__" = some (some (.ref g))
  isf : PySem.W.isFn K (.ref g) = true
  b : L2.Binds K fd ps []
theorem un_own (M : Ong X.K C g fd ps) (F : FnOk X.prog X.w X.K X.mg X.base (L2.CX X.prog X.w) k g fd ps sp) (hr : Room k X.A) : UnR X (unaryOp .USub) (rNeg C sp) := by
  intro pins s σ H x v Q I rx h
  obtain ⟨a, dx, fs, rfl, ha, q⟩ := h
  obtain rfl : v = Value.ref a := rx
  obtain ⟨ox, od, J⟩ := inst_of I ha
  obtain ⟨m, F0⟩ := I.fr
  exact PySem.W.ksp_neg F0 I.ok.mod.kin J M.at_ M.isf (run_fn (us := [.ref a]) (vs := [.ref a]) (dvs := []) F hr M.b .nil passL I (.cons rfl .nil) q)
/-! mirrors -/
def ownB (n : Nat) (md : List D → M D) : D → D → M D := fun x y => match x, y with
  | .ins k _ _, .ins j _ _ => if (k == n && j == n) = true then nox (md [x, y]) else mbad
  | _, _ => mbad
def ownI (n : Nat) (md : List D → M D) : D → D → M D := fun x y => match x, y with
  | .ins k _ _, .int _ => if (k == n) = true then nox (md [x, y]) else mbad
  | _, _ => mbad
def ownN (n : Nat) (md : List D → M D) : D → M D := fun x => match x with
  | .ins k _ _ => if (k == n) = true then nox (md [x]) else mbad
  | _ => mbad
variable {n : Nat} {md : List D → M D}
theorem prim_ownB : Prim2 G (rOwn (G.cls n) (spM G 2 md)) (ownB n md) := by
  intro W p σ H s x y vx vy Q pk rx ry fin
  unfold ownB at fin
  split at fin
  · split at fin
    · rename_i kx nx xs ky ny ys hk
      rw [Bool.and_eq_true] at hk
      obtain rfl : kx = n := beq_iff_eq.mp hk.1
      obtain rfl : ky = kx := beq_iff_eq.mp hk.2
      obtain ⟨a, dx, vs, rfl, a0, a1, al, as⟩ := id rx
      obtain ⟨b, dy, us, rfl, b0, b1, bl, bs⟩ := id ry
      exact ⟨a, dx, _, b, dy, _, rfl, rfl, a1, b1, rfl, p, [.ins _ nx xs, .ins _ ny ys], s, ⟨_, _, rfl, rx, _, _, rfl, ry, rfl⟩, pk, FinG.calm fin⟩
    · exact False.elim fin
  · exact False.elim fin
theorem prim_ownI : Prim2 G (rOwnI (G.cls n) (spM G 2 md)) (ownI n md) := by
  intro W p σ H s x y vx vy Q pk rx ry fin
  unfold ownI at fin
  split at fin
  · split at fin
    · rename_i kx nx xs i hk
      obtain rfl : kx = n := beq_iff_eq.mp hk
      obtain ⟨a, dx, vs, rfl, a0, a1, al, as⟩ := id rx
      obtain rfl : vy = .int i := ry
      exact ⟨a, dx, _, i, rfl, rfl, a1, rfl, p, [.ins _ nx xs, .int i], s, ⟨_, _, rfl, rx, _, _, rfl, rfl, rfl⟩, pk, FinG.calm fin⟩
    · exact False.elim fin
  · exact False.elim fin
theorem prim_ownN : Prim1 G (rNeg (G.cls n) (spM G 1 md)) (ownN n md) := by
  intro W p σ H s x vx Q pk rx fin
  unfold ownN at fin
  split at fin
  · split at fin
    · rename_i kx nx xs hk
      obtain rfl : kx = n := beq_iff_eq.mp hk
      obtain ⟨a, dx, vs, rfl, a0, a1, al, as⟩ := id rx
      exact ⟨a, dx, _, rfl, a1, rfl, p, [.ins _ nx xs], s, ⟨_, _, rfl, rx, rfl⟩, pk, FinG.calm fin⟩
    · exact False.elim fin
  · exact False.elim fin

/-! ### the bag's items -/
inductive Bx where
  | rest | seed | turn
def Bx.ix : Bx → Int
  | .rest => 0
  | .seed => 1
  | .turn => 2
def Pen.bget (s : Pen) : Bx → Int
  | .rest => s.rest
  | .seed => s.seed
  | .turn => s.turn
def Pen.bput (s : Pen) (f : Bx) (i : Int) : Pen := match f with
  | .rest => { s with rest := i }
  | .seed => { s with seed := i }
  | .turn => { s with turn := i }
def bagGet (fe : Loc → M D) (f : Bx) : Loc → M D := fun ρ => mbind (fe ρ) fun d => fun s => match d with
  | .bag => .ok (.int (s.bget f)) s
  | _ => .bad
variable {o e : Expr} {to te tv : TE} {fo fv : Loc → M D} {pos pos' pk' : Pos} {j : Nat} {value : Expr}
theorem de_bagGet (f : Bx) (hK : X.K = K) (ho : DE G X W o to fo) {i : Int} (hi : i = f.ix) : DE G X W (.Subscript o (.Constant (.int i) j pk') pos) (tOp (fun x y H Q => rIxL K x y H Q ∨ rIxT K x y H Q) to (tC (.int i))) (bagGet fo f) := by
  subst hi
  refine ⟨pe_ix (ix_any hK) ho.pe pe_int (fun _ _ => rfl), fun p σ H ρ s Q e pk fin => ?_⟩
  refine ho.run p σ H ρ s _ e pk (fin.step fun d s1 v H1 k1 pk1 rd fin1 => ?_)
  cases d <;> first
    | exact False.elim fin1
    | skip
  obtain ⟨a, ea, rfl⟩ := rd
  obtain ⟨-, h1⟩ := (pk1.1 a none ea).resolve_right fun z => by obtain ⟨_, z, _⟩ := z; cases z
  refine .inl ⟨a, _, _, _, rfl, rfl, SqL.of h1, ?_, fin1 _ H1 Keep.refl pk1 rfl⟩
  cases f <;> rfl
def bagPut (fo fv : Loc → M D) (f : Bx) : MS := fun ρ s => sof (fv ρ s) ρ fun d s1 => sof (fo ρ s1) ρ fun x s2 => match x, d with
  | .bag, .int i => .nx ρ (s2.bput f i)
  | _, _ => .bad
theorem ds_bagPut (f : Bx) (ho : DE G X W o to fo) (hv : DE G X W value tv fv) {i : Int} (hi : i = f.ix)
    (ha : ∀ v, assign (.Subscript o (.Constant (.int i) j pk') pos') X.env v = (do
      let ov ← holding [v] (eval o X.env)
      let iv ← holding [v, ov] (eval (.Constant (.int i) j pk') X.env)
      standAt pos'
      holding [v, ov, iv] (setItem ov iv v)
      release [v, ov, iv] []) := by intro _; rfl)
    (hs : swapsWithSole [.Subscript o (.Constant (.int i) j pk') pos'] value pos.line X.env = pure false := by rfl) (hw : swappedStores [.Subscript o (.Constant (.int i) j pk') pos'] value X.env = pure none := by rfl)
    (h1 : (assignEach [.Subscript o (.Constant (.int i) j pk') pos'] X.env).map (·.2) = [assign (.Subscript o (.Constant (.int i) j pk') pos') X.env] := by rfl) :
    DS G X W (.Assign [.Subscript o (.Constant (.int i) j pk') pos'] value pos) (tAsg tv (gSub to (tC (.int i)) rSetL)) (bagPut fo fv f) := by
  subst hi
  refine ⟨ps_asg hv.pe (pg_sub ho.pe pe_int set_list ha) hs hw h1, fun p σ H ρ s Z e pk fin => ?_⟩
  refine hv.run p σ H ρ s _ e pk (FinS.step fin (fun H1 s1 k1 pk1 => e.keep pk.at k1) fun d s1 v H1 k1 pk1 rd fin1 => ?_)
  have e1 := e.keep pk.at k1
  refine ho.run p σ H1 ρ s1 _ e1 pk1 (FinS.step fin1 (fun H2 s2 k2 pk2 => e1.keep pk1.at k2) fun x s2 vx H2 k2 pk2 rx fin2 => ?_)
  cases x <;> first
    | exact False.elim fin2
    | skip
  cases d <;> first
    | exact False.elim fin2
    | skip
  rename_i i
  obtain ⟨a, ea, rfl⟩ := rx
  obtain ⟨-, hb⟩ := (pk2.1 a none ea).resolve_right fun z => by obtain ⟨_, z, _⟩ := z; cases z
  obtain rfl : v = .int i := rd
  have hout : p.out a := p.okp a none ea
  refine ⟨a, _, _, (match f with | .rest => 0 | .seed => 1 | .turn => 2), rfl, rfl, hb, by cases f <;> rfl, ?_⟩
  have hset : ([V.int s2.rest, .int s2.seed, .int s2.turn].set (match f with | .rest => 0 | .seed => 1 | .turn => 2) (.int i)) = [.int (s2.bput f i).rest, .int (s2.bput f i).seed, .int (s2.bput f i).turn] := by cases f <;> rfl
  rw [hset]
  have kk : Keep p H2 (upd H2 a (.lst [.int (s2.bput f i).rest, .int (s2.bput f i).seed, .int (s2.bput f i).turn])) := fun b u nb eb => by
    rw [upd_ne (fun z => nb (.inl ⟨none, by rw [z]; exact ea⟩))]; exact eb
  have hobj : (s2.bput f i).obj = s2.obj ∧ (s2.bput f i).ocls = s2.ocls := by cases f <;> exact ⟨rfl, rfl⟩
  have pk3 : PenOk G p (upd H2 a (.lst [.int (s2.bput f i).rest, .int (s2.bput f i).seed, .int (s2.bput f i).turn])) (s2.bput f i) := by
    refine ⟨fun b kd eb => ?_, fun x c' dx e => ?_, fun b hb => ?_⟩
    · have eab : (a, none) = (b, kd) := Option.some.inj (ea.symm.trans eb)
      cases eab
      exact .inl ⟨rfl, upd_same⟩
    · obtain ⟨vs, h3, hl, h4⟩ := pk2.2.1 x c' dx e
      rw [hobj.1, hobj.2]
      exact ⟨vs, by rw [upd_ne (p.neo a none _ _ _ ea e)]; exact h3, hl, repL_upd hout _ _ h4⟩
    · by_cases z : b = a
      · subst z; exact ⟨_, upd_same⟩
      · rw [upd_ne z]; exact pk2.2.2 b hb
  exact fin2 σ _ kk pk3 ((e1.keep pk1.at k2).keep pk2.at kk)
end
end Tw

set_option Elab.async false
set_option linter.all false
set_option maxRecDepth 100000
set_option maxHeartbeats 4000000
set_option autoImplicit false
namespace Tw
open PySem L2 PySem.Spec PyProof.Rows
section
variable {K : PySem.W.Frag} {G : Gt} {W : WX} {X : Cx}
/-! ### a tree's type -/
def tyTag : D → Option (String ⊕ Nat)
  | .non => some (.inl "NoneType")
  | .bl _ => some (.inl "bool")
  | .int _ => some (.inl "int")
  | .str _ => some (.inl "str")
  | .lst _ => some (.inl "list")
  | .tup _ => some (.inl "tuple")
  | .ins n _ _ => some (.inr n)
  | _ => none
def tyV (G : Gt) : String ⊕ Nat → Value
  | .inl x => .type x
  | .inr n => .ref (G.cls n)
theorem ty_looks {p : Fm} {pins : List (Addr × Obj)} {σ : L2.St} {H : Hp} {s : Shared} {d : D} {v : V} {u : Value} {t : String ⊕ Nat} (I : Inv X pins σ H s) (r : Rep G p H d v) (rv : RelV v u) (h : tyTag d = some t) : PySem.W.Looks (model X.prog X.w) s.heap (typeOf u) (tyV G t) := by
  cases d <;> cases h
  · obtain rfl : v = .non := r
    obtain rfl : u = Value.none := rv
    exact PySem.W.Looks.of_pure rfl
  · rename_i b
    obtain rfl : v = .bl b := r
    obtain rfl : u = Value.bool b := rv
    exact PySem.W.Looks.of_pure rfl
  · rename_i i
    obtain rfl : v = .int i := r
    obtain ⟨t, rfl⟩ := rv
    exact PySem.W.Looks.of_pure rfl
  · rename_i x
    obtain rfl : v = .str x := r
    obtain ⟨t, rfl⟩ := rv
    exact PySem.W.Looks.of_pure rfl
  · obtain ⟨a, vs, rfl, h0, h1, rs⟩ := r
    obtain rfl : u = Value.ref a := rv
    obtain ⟨_, _, n, _, h2⟩ := (show ObjOk X.prog X.w H s.heap a (.lst vs) from I.hok a _ h1)
    exact fun A Q E s' k q => wpAny_typeOf_ref (k _ _ h2) q
  · obtain ⟨a, vs, rfl, h0, h1, rs⟩ := r
    obtain rfl : u = Value.ref a := rv
    obtain ⟨_, _, _, o, h2, h3, _⟩ := (show ObjOk X.prog X.w H s.heap a (.tup vs) from I.hok a _ h1)
    exact fun A Q E s' k q => wpAny_typeOf_ref (k _ _ h2) (by rw [h3]; exact q)
  · obtain ⟨a, dx, vs, rfl, h0, h1, hl, rs⟩ := r
    obtain rfl : u = Value.ref a := rv
    obtain ⟨ox, od, J⟩ := inst_of I h1
    exact J.type
/-! ### == of an own class -/
/-- an own == : its def; the types that do not come first -/
structure Oeq (K : PySem.W.Frag) (C : Addr) (g : Addr) (fd : FuncData) (ps : List Str) : Prop where
  at_ : PySem.W.findIn K (.ref C) "__eq__" = some (some (.ref g))
  isf : PySem.W.isFn K (.ref g) = true
  b : L2.Binds K fd ps []
def rOeq (G : Gt) (K : PySem.W.Frag) (C : Addr) (sp : Sp) : R2 := fun x y H Q => ∃ a dx fs p d t, x = .ref a ∧ H a = some (.ins C dx fs) ∧ Rep G p H d y ∧ tyTag d = some t ∧ PySem.W.notFirst K C (tyV G t) = true ∧ sp [x, y] H Q (fun _ _ _ => False)
variable {C g : Addr} {qual : Str} {st : Stmt} {fd : FuncData} {ps : List Str} {k n : Nat} {sp : Sp} {md : List D → M D}
theorem op_oeq (hK : X.K = K) (M : Oeq X.K C g fd ps) (F : FnOk X.prog X.w X.K X.mg X.base (L2.CX X.prog X.w) k g fd ps sp) (hr : Room k X.A) (hu : X.A.units < cLine) : OpR X (compareOp .Eq) (rOeq G K C sp) := by
  subst hK
  intro pins s σ H x y v u Q I rx ry h
  obtain ⟨a, dx, fs, p, d, t, rfl, ha, rd, ht, hn, q⟩ := h
  obtain rfl : v = Value.ref a := rx
  obtain ⟨ox, od, J⟩ := inst_of I ha
  obtain ⟨m, F0⟩ := I.fr
  show wpAny _ _ (richCompare .Eq (.ref a) u) _ _ _
  exact PySem.W.cmp_K hu F0 I.ok.mod.kin J (ty_looks I rd ry ht) hn M.at_ M.isf (wpAny_mono (run_fn (us := [.ref a, u]) (vs := [.ref a, y]) (dvs := []) F hr M.b .nil passL I (.cons rfl (.cons ry .nil)) q) (fun _ _ z => back_of z) fun _ _ z => z)
def oeqB (n : Nat) (ok : String ⊕ Nat → Bool) (md : List D → M D) : D → D → M D := fun x y => match x with
  | .ins k _ _ => (match tyTag y with
    | some t => if (k == n && ok t) = true then nox (md [x, y]) else mbad
    | none => mbad)
  | _ => mbad
theorem prim_oeq {ok : String ⊕ Nat → Bool} (hok : ∀ t, ok t = true → PySem.W.notFirst K (G.cls n) (tyV G t) = true) : Prim2 G (rOeq G K (G.cls n) (spM G 2 md)) (oeqB n ok md) := by
  intro W p σ H s x y vx vy Q pk rx ry fin
  unfold oeqB at fin
  cases x <;> first
    | exact False.elim fin
    | skip
  rename_i kx nx xs
  dsimp only at fin
  cases ht : tyTag y with
  | none => rw [ht] at fin; exact False.elim fin
  | some t =>
    rw [ht] at fin
    dsimp only at fin
    split at fin
    · rename_i hk
      rw [Bool.and_eq_true] at hk
      obtain rfl : kx = n := beq_iff_eq.mp hk.1
      obtain ⟨a, dx, vs, rfl, a0, a1, al, as⟩ := id rx
      exact ⟨a, dx, _, p, y, t, rfl, a1, ry, ht, hok t hk.2, rfl, p, [.ins _ nx xs, y], s, ⟨_, _, rfl, rx, _, _, rfl, ry, rfl⟩, pk, FinG.calm fin⟩
    · exact False.elim fin
/-! ### isinstance(x, C) -/
/-- what is asked of the classes whose instances are asked -/
structure Isc (K : PySem.W.Frag) (C : Addr) : Prop where
  c : L2.Cls K C
  h1 : PySem.W.findIn K (.ref C) "__class__" = some (some (.builtin "object.__class__"))
  h2 : PySem.W.specialIn K (.builtin "object.__class__") "__get__" = some (some (.builtin "getset_descriptor.__get__"))
  h3 : PySem.W.takesIn K (.builtin "object.__class__") = some true
  h4 : PySem.W.mroIn K C (.type "object") = some true
def isiO (ans : String ⊕ Nat → String ⊕ Nat → Option Bool) (ds : List D) : M D := match ds with
  | [x, .ty T] => (match tyTag x with
    | some t => (match ans t (.inl T) with
      | some b => mret (.bl b)
      | none => mbad)
    | none => mbad)
  | [x, .cls c] => (match tyTag x with
    | some t => (match ans t (.inr c) with
      | some b => mret (.bl b)
      | none => mbad)
    | none => mbad)
  | _ => mbad
/-- the answers; the classes of which instances are asked -/
structure IsA (G : Gt) (K : PySem.W.Frag) (ans : String ⊕ Nat → String ⊕ Nat → Option Bool) : Prop where
  ok : ∀ t c b, ans t c = some b → PySem.W.kitOne K (tyV G t) (tyV G c) = some b
  isc : ∀ n c b, ans (.inr n) c = some b → Isc K (G.cls n)
theorem tyx_of {ans : String ⊕ Nat → String ⊕ Nat → Option Bool} (A : IsA G K ans) {p : Fm} {H : Hp} {d : D} {v : V} {t c : String ⊕ Nat} {b : Bool} (r : Rep G p H d v) (h : tyTag d = some t) (ha : ans t c = some b) : TyX K H v (tyV G t) := by
  cases d <;> cases h
  · rw [(show v = _ from r)]; exact .base .non
  · rw [(show v = _ from r)]; exact .base (.bl _)
  · rw [(show v = _ from r)]; exact .base (.int _)
  · rw [(show v = _ from r)]; exact .base (.str _)
  · obtain ⟨a, us, rfl, h0, h1, q1⟩ := r; exact .base (.lst h1)
  · obtain ⟨a, us, rfl, h0, h1, q1⟩ := r; exact .base (.tup h1)
  · obtain ⟨a, dx, us, rfl, h0, h1, hl, q1⟩ := r
    have z := A.isc _ _ _ ha
    exact .base (.ins h1 z.c z.h1 z.h2 z.h3 z.h4)
theorem prim_isiO {ans : String ⊕ Nat → String ⊕ Nat → Option Bool} (A : IsA G K ans) : PrimL G (rIsi K) (isiO ans) := by
  intro W p σ H s xs vs Q pk rs fin
  unfold isiO at fin
  split at fin
  · rename_i x T
    obtain ⟨v, _, rfl, rx, w, _, rfl, ry, hz⟩ := rs
    obtain rfl := hz
    obtain rfl : w = .ty T := ry
    cases h : tyTag x with
    | none => rw [h] at fin; exact False.elim fin
    | some t =>
      rw [h] at fin
      dsimp only at fin
      cases ha : ans t (.inl T) with
      | none => rw [ha] at fin; exact False.elim fin
      | some b =>
        rw [ha] at fin
        exact ⟨v, .ty T, tyV G t, .type T, b, rfl, .ty T, tyx_of A rx h ha, A.ok _ _ _ ha, fin _ H Keep.refl pk rfl⟩
  · rename_i x c
    obtain ⟨v, _, rfl, rx, w, _, rfl, ry, hz⟩ := rs
    obtain rfl := hz
    obtain rfl : w = .ref (G.cls c) := ry
    cases h : tyTag x with
    | none => rw [h] at fin; exact False.elim fin
    | some t =>
      rw [h] at fin
      dsimp only at fin
      cases ha : ans t (.inr c) with
      | none => rw [ha] at fin; exact False.elim fin
      | some b =>
        rw [ha] at fin
        exact ⟨v, _, tyV G t, .ref (G.cls c), b, rfl, .own _, tyx_of A rx h ha, A.ok _ _ _ ha, fin _ H Keep.refl pk rfl⟩
  · exact False.elim fin
/-! ### while -/
variable {c : Expr} {body : List Stmt} {A1 : TT} {f1 : Loc → M Bool} {tb : TS} {mb : MS} {pos : Pos}
def swN (f1 : Loc → M Bool) (mb : MS) : Nat → MS
  | 0 => fun _ _ => .bad
  | n + 1 => fun ρ s => sof (f1 ρ s) ρ fun k s1 => if k = true then (match mb ρ s1 with
    | .nx ρ2 s2 => swN f1 mb n ρ2 s2
    | .ct ρ2 s2 => swN f1 mb n ρ2 s2
    | .bk ρ2 s2 => .nx ρ2 s2
    | .ret d s2 => .ret d s2
    | .exc c ns xs ρ2 s2 => .exc c ns xs ρ2 s2
    | .bad => .bad) else .nx ρ s1
open Classical in
/-- the loop's outcome, after as many turns as it takes -/
noncomputable def swhile (f1 : Loc → M Bool) (mb : MS) : MS := fun ρ s => if h : ∃ n, swN f1 mb n ρ s ≠ .bad then swN f1 mb (choose h) ρ s else .bad
theorem swN_up (n : Nat) : ∀ (ρ : Loc) (s : Pen), swN f1 mb n ρ s ≠ .bad → swN f1 mb (n + 1) ρ s = swN f1 mb n ρ s := by
  induction n with
  | zero => intro ρ s h; exact absurd rfl h
  | succ n ih =>
    intro ρ s h
    unfold swN at h ⊢
    unfold sof at h ⊢
    cases q : f1 ρ s with
    | bad => rfl
    | exc c ns xs s1 => rfl
    | ok k s1 =>
      rw [q] at h
      dsimp only at h ⊢
      cases k with
      | false => rfl
      | true =>
        rw [if_pos rfl] at h ⊢
        rw [if_pos rfl]
        cases q2 : mb ρ s1 with
        | nx ρ2 s2 => rw [q2] at h; exact ih ρ2 s2 h
        | ct ρ2 s2 => rw [q2] at h; exact ih ρ2 s2 h
        | bk ρ2 s2 => rfl
        | ret d s2 => rfl
        | exc c ns xs ρ2 s2 => rfl
        | bad => rfl
theorem swN_le {n m : Nat} (hnm : n ≤ m) {ρ : Loc} {s : Pen} (h : swN f1 mb n ρ s ≠ .bad) : swN f1 mb m ρ s = swN f1 mb n ρ s := by
  induction hnm with
  | refl => rfl
  | step _ ih => exact (swN_up _ ρ s (by rw [ih]; exact h)).trans ih
theorem swhile_eq {n : Nat} {ρ : Loc} {s : Pen} {o : OutS} (h : swN f1 mb n ρ s = o) (ho : o ≠ .bad) : swhile f1 mb ρ s = o := by
  unfold swhile
  have hx : ∃ n, swN f1 mb n ρ s ≠ .bad := ⟨n, by rw [h]; exact ho⟩
  rw [dif_pos hx]
  have h2 := Classical.choose_spec hx
  rcases Nat.le_total (Classical.choose hx) n with z | z
  · exact (swN_le z h2).symm.trans h
  · exact (swN_le z (by rw [h]; exact ho)).trans h
theorem run_while (hc : RunG G W RelB A1 f1) (hb : RunS G W tb mb) : RunS G W (tWhile A1 tb) (swhile f1 mb) := by
  intro p σ H ρ s Z e pk fin
  have hN : ∃ n, FinS G W p H Z (swN f1 mb n ρ s) := by
    unfold swhile at fin
    by_cases hx : ∃ n, swN f1 mb n ρ s ≠ .bad
    · rw [dif_pos hx] at fin; exact ⟨_, fin⟩
    · rw [dif_neg hx] at fin; exact False.elim fin
  obtain ⟨n, fin⟩ := hN
  refine ⟨fun m σ' H' => ∃ ρ' s', EnvOk G p H' σ' ρ' ∧ PenOk G p H' s' ∧ FinS G W p H' Z (swN f1 mb m ρ' s'), ⟨n, ρ, s, e, pk, fin⟩, ?_⟩
  rintro m σ' H' ⟨ρ', s', e', pk', fin'⟩
  cases m with
  | zero => exact False.elim fin'
  | succ m =>
    unfold swN at fin'
    refine hc p σ' H' ρ' s' _ e' pk' (FinS.step fin' (fun H1 s1 k1 pk1 => e'.keep pk'.at k1) fun x s1 b H1 k1 pk1 rx fin1 => ?_)
    obtain rfl : b = x := rx
    have e1 := e'.keep pk'.at k1
    cases b with
    | false =>
      rw [if_neg Bool.false_ne_true] at fin1 ⊢
      exact fin1 σ' H1 Keep.refl pk1 e1
    | true =>
      rw [if_pos rfl] at fin1 ⊢
      refine ⟨fun σ2 H2 => ∃ ρ2 s2, EnvOk G p H2 σ2 ρ2 ∧ PenOk G p H2 s2 ∧ FinS G W p H2 Z (swN f1 mb m ρ2 s2), fun σ2 H2 h => ⟨m, Nat.lt_succ_self m, h⟩, ?_⟩
      refine hb p σ' H1 ρ' s1 _ e1 pk1 ?_
      cases q : mb ρ' s1 with
      | nx ρ2 s2 => rw [q] at fin1; exact fun σ3 H3 k3 pk3 e3 => ⟨ρ2, s2, e3, pk3, FinS.keep k3 fin1⟩
      | ct ρ2 s2 => rw [q] at fin1; exact fun σ3 H3 k3 pk3 e3 => ⟨ρ2, s2, e3, pk3, FinS.keep k3 fin1⟩
      | bk ρ2 s2 => rw [q] at fin1; exact fin1
      | ret d s2 => rw [q] at fin1; exact fin1
      | exc c ns xs ρ2 s2 => rw [q] at fin1; exact fin1
      | bad => rw [q] at fin1; exact fin1
theorem ds_while (hp : PassesOwn (model X.prog X.w) X.A X.env X.xe) (hc : DT G X W c A1 f1) (hb : DSs G X W body tb mb) : DS G X W (.While c body [] pos) (tWhile A1 tb) (swhile f1 mb) := ⟨ps_while hp hc.pt hb.ps, run_while hc.run hb.run⟩
end
end Tw

set_option Elab.async false
set_option linter.all false
set_option maxRecDepth 100000
set_option maxHeartbeats 4000000
set_option autoImplicit false
namespace Tw
open PySem L2 PySem.Spec PyProof.Rows
section
variable {K : PySem.W.Frag} {G : Gt} {W : WX} {X : Cx}
variable {a b c e o : Expr} {es : List Expr} {ta te to tv : TE} {fa fe fo fv : Loc → M D} {pos pos' apos : Pos} {tA : TA} {fA : Loc → M (List D)} {f m : Str}
/-! ### cls(..) : a class called by a local name -/
def tMakeV (C : Addr) (sp : Sp) (dvs : List V) (E : L2.St → XK) (tn : TE) (t : TA) : TE := fun σ H Q => tn σ H fun v H0 => v = .ref C ∧ tMakeS C sp dvs E t σ H0 Q
theorem pe_makeV {k : Nat} {C g : Addr} {fd : FuncData} {ps : List Str} {sp : Sp} {dvs : List V} {dl : List Value} {E : L2.St → XK} {x : Str} {p : Pos} {t : TA} {tn : TE} (M : L2.Mk X.K C g) (F : FnOk X.prog X.w X.K X.mg X.base (L2.CX X.prog X.w) k g fd ps sp) (hr : Room (k + 1) X.A) (hn : PE X (.Name x p) tn) (hb : L2.Binds X.K fd ps dl) (hd : Vals dvs dl) (hx : ∀ σ, PassesAt (L2.CX X.prog X.w) X σ (E σ))
    (ha : PA X (e :: es) t) (he : starEach (e :: es) X.env = (false, eval e X.env) :: starEach es X.env := by rfl) (hpl : (backTo pos (starEach es X.env)).any (·.1) = false := by rfl) :
    PE X (.Call (.Name x p) (e :: es) [] pos) (tMakeV C sp dvs E tn t) := by
  refine ⟨fun pins s0 σ H0 Q I0 h => ?_⟩
  refine wpAny_Call_Name_kw (thn (hn.run pins s0 σ H0 _ I0 h) fun u0 s ⟨v0, H, I, rv0, ev0, h⟩ => ?_)
  subst ev0
  obtain rfl : u0 = Value.ref C := rv0
  refine PySem.W.callWith_K (h₀ := X.base) I.ok.mod.kin M.kp (thn (ha.run pos pins s σ H _ I h) fun us s1 ⟨vs, H1, I1, r, q⟩ => ⟨I1.kIn, ?_⟩) he hpl
  have hq := q (s1.heap.objs.size + 1) s1.heap.objs.size (I1.hok.fresh (Nat.le_succ _)) (I1.hok.fresh (Nat.le_refl _)) (Nat.ne_of_lt (Nat.lt_succ_self _))
  have I2 := Inv.made (C := C) I1
  have r2 : Vals (V.ref (s1.heap.objs.size + 1) :: (vs ++ dvs)) (Value.ref (s1.heap.objs.size + 1) :: (us ++ dl)) := .cons rfl (r.append hd)
  have hl : (Value.ref (s1.heap.objs.size + 1) :: us ++ dl).length = ps.length := by
    have e := r2.length
    rw [F.len _ _ _ _ hq] at e
    exact e.symm
  refine wpAny_call (make_map (f := g) I1.kIn M.makes M.init (beq_iff_eq.mp M.fn) (codeAny_mono (F.run _ X.stack _ _ ⟨Value.ref (s1.heap.objs.size + 1) :: us, []⟩ (Value.ref (s1.heap.objs.size + 1) :: (us ++ dl)) _ _ (E σ) (hr.make C us [])
    (I2.env0.make C us []) (hb _ (Value.ref (s1.heap.objs.size + 1) :: us) I2.kIn hl) r2 hq) fun r s' hq' => ?_))
  cases r with
  | error er => exact hx σ pins _ _ er s' I2 hq'
  | ok fl =>
    cases fl with
    | ret u =>
      obtain ⟨v, H', I3, rv, ev, q3⟩ := I2.after hq'
      subst ev
      exact ⟨rv, ⟨V.ref (s1.heap.objs.size + 1), H', I3, rfl, q3⟩⟩
    | next => exact False.elim hq'
    | brk => exact False.elim hq'
    | cont => exact False.elim hq'
def kMkV (c : Nat) (m : List D → M D) (dd : List D) (fn : Loc → M D) (fA : Loc → M (List D)) : Loc → M D := fun ρ => mbind (fn ρ) fun d => match d with
  | .cls k => if (k == c) = true then mbind (fA ρ) fun ds => mkD c m (ds ++ dd) else mbad
  | _ => mbad
theorem x_makeV {k n : Nat} {c : Nat} {g : Addr} {fd : FuncData} {ps : List Str} {dd : List D} {dvs : List V} {dl : List Value} {m : List D → M D} {x y : Str} {p : Pos} {tn : TE} {fn : Loc → M D} (M : MkC X.K X.mg y (G.cls c) g fd ps dl) (F : FnOk X.prog X.w X.K X.mg X.base (L2.CX X.prog X.w) k g fd ps (spM G (n + 1) m)) (hr : Room (k + 1) X.A) (tk : Takes X W) (hd : Vals dvs dl) (hdd : ∀ p H, RepL G p H dd dvs)
    (hn : DE G X W (.Name x p) tn fn) (ha : DA G X W (e :: es) tA fA) {j : Nat} (hl : LenA fA j) (hj : j + dd.length = n) (he : starEach (e :: es) X.env = (false, eval e X.env) :: starEach es X.env := by rfl) (hpl : (backTo pos (starEach es X.env)).any (·.1) = false := by rfl) :
    DE G X W (.Call (.Name x p) (e :: es) [] pos) (tMakeV (G.cls c) (spM G (n + 1) m) dvs (WE W) tn tA) (kMkV c m dd fn fA) := by
  refine ⟨pe_makeV M.made F hr hn.pe M.bd hd (fun σ => passAt tk σ) ha.pa he hpl, fun p σ H ρ s Q e pk fin => ?_⟩
  refine hn.run p σ H ρ s _ e pk (FinG.step (RA := RelE G) fin fun d s1 v H1 k1 pk1 rd fin1 => ?_)
  cases d <;> try (exact False.elim fin1)
  rename_i kk
  dsimp only at fin1
  by_cases hk : (kk == c) = true
  · rw [if_pos hk] at fin1
    obtain rfl : kk = c := beq_iff_eq.mp hk
    refine ⟨rd, ?_⟩
    have fin2 : FinG G W (RelE G) p σ H1 Q (obind (fA ρ s1) fun ds => mkD kk m (ds ++ dd)) := fin1
    refine ha.run p σ H1 ρ s1 _ (e.keep pk.at k1) pk1 ?_
    cases h : fA ρ s1 with
    | ok ds s2 =>
      rw [h] at fin2
      intro vs H2 k2 pk2 rs x dx hx hdx hne
      exact make_ok pk2 (repL_app rs (hdd p H2)) (by rw [List.length_append, hl ρ s1 ds s2 h]; exact hj) hx hdx hne (FinG.keep k2 fin2)
    | exc c ns xs s2 => rw [h] at fin2; exact fin2
    | bad => rw [h] at fin2; exact fin2
  · rw [if_neg hk] at fin1; exact False.elim fin1

/-! ### raise C(x) of an own error whose __init__ keeps one thing, or two -/
variable {P : Program} {w : World} {mg : Str → Option Value} {base : Heap}
def spX1 (C : Addr) (f : Str) : Sp := fun vs H Q _ => ∃ a v, vs = [.ref a, v] ∧ H a = some (exo a C none) ∧ ∀ dx, H dx = none → dx ≠ a → Q .non (upd (upd H dx (exd dx [(f, v)])) a (exo a C (some dx)))
theorem ok_x1 {qual : Str} {st : Stmt} {g C : Addr} {fd : FuncData} {pn : Str} {p1 p2 p3 pos : Pos} (F : Fun K "__init__" qual st g fd) (S : FnScope ["self", pn] ["self", pn] (defScope st)) (hb : defBody st = [.Assign [.Attribute (.Name "self" p1) f p2] (.Name pn p3) pos])
    (T : OexC K C) (hf : PySem.W.findIn K (.ref C) f = some none) (hd : (pn == ("__debug__" : Str)) = false := by decide) (hcd : (pn == ("__classdict__" : Str)) = false := by decide) : FnOk P w K mg base (L2.CX P w) 1 g fd ["self", pn] (spX1 C f) := by
  refine F.okX S (fun vs H Q E h => by obtain ⟨a, v, rfl, _⟩ := h; rfl) fun cdv A outer s H vs Q E hr h => ?_
  obtain ⟨a, v, rfl, ha, q⟩ := h
  have vis : ∀ y : Str, y ∈ ([("self" : Str), pn] : List Str) → Vis (defScope st) y := fun y hy => (S.par y hy).elim (fun z => .inl z) (fun z => .inr (.inl z))
  refine ⟨_, by rw [hb]; exact pss_one (ps_ost (pe_var (i := 0) rfl (vis "self" (by simp))) (pe_var (i := 1) rfl (vis pn (by simp)) hd hcd)), ?_⟩
  exact ⟨v, rfl, .ref a, rfl, a, C, rfl, T, hf, .inl ⟨ha, q⟩⟩
def spX2 (C : Addr) (f f' : Str) : Sp := fun vs H Q _ => ∃ a v u, vs = [.ref a, v, u] ∧ H a = some (exo a C none) ∧ ∀ dx, H dx = none → dx ≠ a → Q .non (upd (upd (upd H dx (exd dx [(f, v)])) a (exo a C (some dx))) dx (exd dx [(f', u), (f, v)]))
theorem ok_x2 {qual : Str} {st : Stmt} {g C : Addr} {fd : FuncData} {f' pn pn' : Str} {p1 p2 p3 p1' p2' p3' pos pos' : Pos} (F : Fun K "__init__" qual st g fd) (S : FnScope ["self", pn, pn'] ["self", pn, pn'] (defScope st))
    (hb : defBody st = [.Assign [.Attribute (.Name "self" p1) f p2] (.Name pn p3) pos, .Assign [.Attribute (.Name "self" p1') f' p2'] (.Name pn' p3') pos'])
    (T : OexC K C) (hf : PySem.W.findIn K (.ref C) f = some none) (hf' : PySem.W.findIn K (.ref C) f' = some none) (hd : (pn == ("__debug__" : Str)) = false := by decide) (hcd : (pn == ("__classdict__" : Str)) = false := by decide) (hd' : (pn' == ("__debug__" : Str)) = false := by decide) (hcd' : (pn' == ("__classdict__" : Str)) = false := by decide) :
    FnOk P w K mg base (L2.CX P w) 1 g fd ["self", pn, pn'] (spX2 C f f') := by
  refine F.okX S (fun vs H Q E h => by obtain ⟨a, v, u, rfl, _⟩ := h; rfl) fun cdv A outer s H vs Q E hr h => ?_
  obtain ⟨a, v, u, rfl, ha, q⟩ := h
  have vis : ∀ y : Str, y ∈ ([("self" : Str), pn, pn'] : List Str) → Vis (defScope st) y := fun y hy => (S.par y hy).elim (fun z => .inl z) (fun z => .inr (.inl z))
  refine ⟨_, by rw [hb]; exact pss_cons (ps_ost (pe_var (i := 0) rfl (vis "self" (by simp))) (pe_var (i := 1) rfl (vis pn (by simp)) hd hcd)) (pss_one (ps_ost (pe_var (i := 0) rfl (vis "self" (by simp))) (pe_var (i := 2) rfl (vis pn' (by simp)) hd' hcd'))), ?_⟩
  refine ⟨v, rfl, .ref a, rfl, a, C, rfl, T, hf, .inl ⟨ha, fun dx hdx hne => ?_⟩⟩
  exact ⟨u, rfl, .ref a, rfl, a, C, rfl, T, hf', .inr ⟨dx, [(f, v)], upd_same, by rw [upd_ne hne, upd_same], by simp, q dx hdx hne⟩⟩
/-- an own error whose __init__ takes arguments -/
structure ErrN (K : PySem.W.Frag) (mg : Str → Option Value) (x : Str) (C fI : Addr) (st : Stmt) (qual : Str) (fd : FuncData) (ps : List Str) : Prop where
  ox : OexC K C
  fi : PySem.W.findIn K (.ref C) "__init__" = some (some (.ref fI))
  ti : PySem.W.typeIn K (.ref fI) = some (.type "function")
  fn : Fun K "__init__" qual st fI fd
  bd : L2.Binds K fd ps []
  m : mg x = some (.ref C)
def zRaiseN (c : Nat) (ns : List Str) (fA : Loc → M (List D)) : MS := fun ρ s => sof (fA ρ s) ρ fun ds s' => if decide (ds.length = ns.length) = true then .exc c ns ds ρ s' else .bad
/-- the heap behind the making: all stands, the dict is new -/
theorem exc_heap {H1 : Hp} {a d : Addr} {o1 o2 o3 : HO} (ha : H1 a = none) (hd : upd H1 a o1 d = none) (hne : d ≠ a) {H2 : Hp} (h2 : ∀ b, b ≠ a → b ≠ d → H2 b = H1 b) : (∀ b o, H1 b = some o → upd (del H2 a) d o3 b = some o) ∧ H1 d = none := by
  have hd1 : H1 d = none := by rw [upd_ne hne] at hd; exact hd
  refine ⟨fun b o e => ?_, hd1⟩
  have n1 : b ≠ a := ne_of_none e ha
  have n2 : b ≠ d := ne_of_none e hd1
  rw [upd_ne n2, del_ne n1, h2 b n1 n2]
  exact e
theorem z_raise1 {cn : Nat} {x : Str} {fI : Addr} {stI : Stmt} {qual : Str} {fd : FuncData} {pn : Str} {p0 : Pos} (hc : X.calm = true) (tk : Takes X W) (E : ErrN X.K X.mg x (G.cls cn) fI stI qual fd ["self", pn])
    (F : FnOk X.prog X.w X.K X.mg X.base (L2.CX X.prog X.w) 1 fI fd ["self", pn] (spX1 (G.cls cn) f)) (hr : Room 2 X.A) (ha : DA G X W [e] tA fA) (hl : LenA fA 1) (hg : Gl X x := by rfl) (hdb : (x == ("__debug__" : Str)) = false := by decide) (he : starEach [e] X.env = [(false, eval e X.env)] := by rfl) (hpl : (backTo pos' (starEach [] X.env)).any (·.1) = false := by rfl) :
    DS G X W (.Raise (some (.Call (.Name x p0) [e] [] pos')) none pos) (fun _ σ H => tMkO (G.cls cn) (spX1 (G.cls cn) f) [] tA σ H (fun cls d H' => W cls d σ H')) (zRaiseN cn [f] fA) := by
  refine ⟨ps_raise hc tk (pmk_oex E.ox E.fi E.ti F hr E.bd .nil passL hg E.m ha.pa hdb he hpl), fun p σ H ρ s Z e pk fin => ?_⟩
  refine ha.run p σ H ρ s _ e pk (FinS.step fin (fun H1 s1 k1 pk1 => e.keep pk.at k1) fun ds s1 vs H1 k1 pk1 rs fin1 => ?_)
  by_cases hdn : ¬ ds.length = [f].length
  · rw [if_neg (by simpa using hdn)] at fin1
    exact False.elim fin1
  have hds0 : ds.length = [f].length := Decidable.not_not.mp hdn
  rw [if_pos (decide_eq_true hds0)] at fin1
  have hds : ds.length = 1 := hds0
  match ds, hds, rs, fin1 with
  | [d0], _, rs, fin1 =>
    obtain ⟨v, _, rfl, rv, hz⟩ := rs
    obtain rfl := hz
    refine ⟨by simp, fun a hna => ⟨a, v, rfl, upd_same, fun dx hdx hne => ?_⟩⟩
    obtain ⟨hk, hd1⟩ := exc_heap (H1 := H1) (a := a) (d := dx) (o1 := exo a (G.cls cn) none) (o2 := exo a (G.cls cn) none) (o3 := .xd [(f, v)]) hna hdx hne (H2 := upd (upd (upd H1 a (exo a (G.cls cn) none)) dx (exd dx [(f, v)])) a (exo a (G.cls cn) (some dx))) (fun b n1 n2 => by rw [upd_ne n1, upd_ne n2, upd_ne n1])
    refine ⟨rfl, dx, [(f, v)], upd_same, by rw [upd_ne hne, upd_same], hd1, ?_⟩
    have kp : Keep p H1 (upd (del (upd (upd (upd H1 a (exo a (G.cls cn) none)) dx (exd dx [(f, v)])) a (exo a (G.cls cn) (some dx))) a) dx (.xd [(f, v)])) := fun b o _ h => hk b o h
    refine fin1 (some dx) σ _ kp (pk1.mono hk) ((e.keep pk.at k1).keep pk1.at kp) ⟨[v], ⟨v, [], rfl, rep_keep pk1.at kp _ _ rv, rfl⟩, .inr ⟨dx, _, by simp, rfl, pk1.free hd1, upd_same, fun i f' v' h1 h2 => ?_⟩⟩
    match i, h1, h2 with
    | 0, h1, h2 =>
      cases h1; cases h2
      simp [List.lookup]
theorem z_raise2 {cn : Nat} {x : Str} {fI : Addr} {stI : Stmt} {qual : Str} {fd : FuncData} {f' pn pn' : Str} {p0 : Pos} {e2 : Expr} (hc : X.calm = true) (tk : Takes X W) (E : ErrN X.K X.mg x (G.cls cn) fI stI qual fd ["self", pn, pn'])
    (F : FnOk X.prog X.w X.K X.mg X.base (L2.CX X.prog X.w) 1 fI fd ["self", pn, pn'] (spX2 (G.cls cn) f f')) (hr : Room 2 X.A) (ha : DA G X W [e, e2] tA fA) (hl : LenA fA 2) (hg : Gl X x := by rfl) (hdb : (x == ("__debug__" : Str)) = false := by decide) (hff : f ≠ f') (he : starEach [e, e2] X.env = (false, eval e X.env) :: starEach [e2] X.env := by rfl) (hpl : (backTo pos' (starEach [e2] X.env)).any (·.1) = false := by rfl) :
    DS G X W (.Raise (some (.Call (.Name x p0) [e, e2] [] pos')) none pos) (fun _ σ H => tMkO (G.cls cn) (spX2 (G.cls cn) f f') [] tA σ H (fun cls d H' => W cls d σ H')) (zRaiseN cn [f, f'] fA) := by
  refine ⟨ps_raise hc tk (pmk_oex E.ox E.fi E.ti F hr E.bd .nil passL hg E.m ha.pa hdb he hpl), fun p σ H ρ s Z e pk fin => ?_⟩
  refine ha.run p σ H ρ s _ e pk (FinS.step fin (fun H1 s1 k1 pk1 => e.keep pk.at k1) fun ds s1 vs H1 k1 pk1 rs fin1 => ?_)
  by_cases hdn : ¬ ds.length = [f, f'].length
  · rw [if_neg (by simpa using hdn)] at fin1
    exact False.elim fin1
  have hds0 : ds.length = [f, f'].length := Decidable.not_not.mp hdn
  rw [if_pos (decide_eq_true hds0)] at fin1
  have hds : ds.length = 2 := hds0
  match ds, hds, rs, fin1 with
  | [d0, d1], _, rs, fin1 =>
    obtain ⟨v, _, rfl, rv, u, _, rfl, ru, hz⟩ := rs
    obtain rfl := hz
    refine ⟨by simp, fun a hna => ⟨a, v, u, rfl, upd_same, fun dx hdx hne => ?_⟩⟩
    obtain ⟨hk, hd1⟩ := exc_heap (H1 := H1) (a := a) (d := dx) (o1 := exo a (G.cls cn) none) (o2 := exo a (G.cls cn) none) (o3 := .xd [(f', u), (f, v)]) hna hdx hne (H2 := upd (upd (upd (upd H1 a (exo a (G.cls cn) none)) dx (exd dx [(f, v)])) a (exo a (G.cls cn) (some dx))) dx (exd dx [(f', u), (f, v)])) (fun b n1 n2 => by rw [upd_ne n2, upd_ne n1, upd_ne n2, upd_ne n1])
    refine ⟨rfl, dx, [(f', u), (f, v)], by rw [upd_ne (Ne.symm hne), upd_same], upd_same, hd1, ?_⟩
    have kp : Keep p H1 (upd (del (upd (upd (upd (upd H1 a (exo a (G.cls cn) none)) dx (exd dx [(f, v)])) a (exo a (G.cls cn) (some dx))) dx (exd dx [(f', u), (f, v)])) a) dx (.xd [(f', u), (f, v)])) := fun b o _ h => hk b o h
    refine fin1 (some dx) σ _ kp (pk1.mono hk) ((e.keep pk.at k1).keep pk1.at kp) ⟨[v, u], ⟨v, [u], rfl, rep_keep pk1.at kp _ _ rv, u, [], rfl, rep_keep pk1.at kp _ _ ru, rfl⟩, .inr ⟨dx, _, by simp, rfl, pk1.free hd1, upd_same, fun i g' v' h1 h2 => ?_⟩⟩
    match i, h1, h2 with
    | 0, h1, h2 =>
      cases h1; cases h2
      have : (f == f') = false := by simpa using hff
      simp [List.lookup, this]
    | 1, h1, h2 =>
      cases h1; cases h2
      simp [List.lookup]
end
end Tw

set_option Elab.async false
set_option linter.all false
set_option maxRecDepth 100000
set_option maxHeartbeats 4000000
set_option autoImplicit false
namespace Tw
open PySem L2 PySem.Spec PyProof.Rows
section
variable {K : PySem.W.Frag} {G : Gt} {W : WX} {X : Cx}
variable {a b c e o i : Expr} {es : List Expr} {ta te to tv ti : TE} {fa fe fo fv fi : Loc → M D} {pos pos' apos : Pos} {tA : TA} {fA : Loc → M (List D)} {f m : Str}
/-! ### x = [..]; x[i] = e : a list that nobody else holds -/
def sLset (n : Nat) (fA : Loc → M (List D)) (fi fv : Loc → M D) : MS := fun ρ s => sof (fA ρ s) ρ fun ds s1 => if (decide (ds.length ≤ 100000) && decide (n < ρ.length)) = true then
    sof (nox (fv (ρ.set n none)) s1) ρ fun d s2 => sof (nox (fi (ρ.set n none)) s2) ρ fun k s3 => (match k with
      | .int k => (match ixN ds.length k with
        | some j => .nx (ρ.set n (some (.lst (ds.set j d)))) s3
        | none => .bad)
      | _ => .bad)
  else .bad
theorem FinS.calm {α β : Type} {R : Fm → Hp → α → β → Prop} {p q : Fm} {σ : L2.St} {H Hq : Hp} {ρ : Loc} {Z : Ends} {mm : M α} {s : Pen} {k : α → Pen → OutS} {Q : β → Hp → Prop} (fin : FinS G W p H Z (sof (nox mm s) ρ k))
    (hb : ∀ a s1 b H1, Keep q Hq H1 → PenOk G q H1 s1 → R q H1 a b → FinS G W p H Z (k a s1) → Q b H1) : FinG G W R q σ Hq Q (mm s) := by
  unfold nox at fin
  cases h : mm s with
  | ok a s1 => rw [h] at fin; exact fun b H1 k1 pk1 r => hb a s1 b H1 k1 pk1 r fin
  | exc c ns xs s1 => rw [h] at fin; exact False.elim fin
  | bad => rw [h] at fin; exact False.elim fin
theorem EnvOk.hide {p : Fm} {H : Hp} {σ : L2.St} {ρ : Loc} {n : Nat} {v : V} (e : EnvOk G p H σ ρ) : EnvOk G p H (σ.set n (some v)) (ρ.set n none) := by
  refine ⟨by simp [e.1], fun j x hx => ?_⟩
  rw [List.getElem?_set] at hx
  by_cases hij : n = j
  · subst hij
    simp only [if_true] at hx
    split at hx <;> cases hx
  · rw [if_neg hij] at hx
    obtain ⟨u, h1, h2⟩ := e.2 j x hx
    exact ⟨u, by rw [List.getElem?_set, if_neg hij]; exact h1, h2⟩
theorem repL_set {p : Fm} {H : Hp} : ∀ {ds : List D} {vs : List V} {j : Nat} {d : D} {v : V}, RepL G p H ds vs → Rep G p H d v → RepL G p H (ds.set j d) (vs.set j v)
  | [], vs, j, d, v, q, _ => by rw [(show vs = [] from q)]; rfl
  | x :: ds, vs, 0, d, v, q, r => by
    obtain ⟨u, us, rfl, _, q2⟩ := q
    exact ⟨v, us, rfl, r, q2⟩
  | x :: ds, vs, j + 1, d, v, q, r => by
    obtain ⟨u, us, rfl, q1, q2⟩ := q
    exact ⟨u, us.set j v, rfl, q1, repL_set q2 r⟩
theorem run_lset {n : Nat} (ha : RunG G W (RelA G) tA fA) (hi : RunG G W (RelE G) ti fi) (hv : RunG G W (RelE G) tv fv) :
    RunS G W (tSeq (tAsg (tLst tA) (gName n)) (tAsg tv (gSub (tVar n) ti rSetL))) (sLset n fA fi fv) := by
  intro p σ H ρ s Z e pk fin
  refine ha p σ H ρ s _ e pk (FinS.step fin (fun H1 s1 k1 pk1 => e.keep pk.at k1) fun ds s1 vs H1 k1 pk1 rs fin1 => ?_)
  by_cases hln : ¬ (decide (ds.length ≤ 100000) && decide (n < ρ.length)) = true
  · rw [if_neg hln] at fin1; exact False.elim fin1
  have hln' : (decide (ds.length ≤ 100000) && decide (n < ρ.length)) = true := Decidable.not_not.mp hln
  rw [if_pos hln'] at fin1
  rw [Bool.and_eq_true] at hln'
  have hl : ds.length ≤ 100000 := of_decide_eq_true hln'.1
  have hn : n < σ.length := by rw [e.1]; exact of_decide_eq_true hln'.2
  refine ⟨by rw [← repL_len rs]; exact Nat.le_trans hl (by decide), fun L hL => ?_⟩
  have wd : Wider p (p.add L) H1 := wider_add hL
  have hnm : ¬ (p.add L).mut L := pk1.nomut hL
  have ho : (p.add L).out L := .inr rfl
  have e1 : EnvOk G (p.add L) (upd H1 L (.lst vs)) (σ.set n (some (.ref L))) (ρ.set n none) := (((e.keep pk.at k1).out wd).keep trivial (Keep.new hL)).hide
  have rs1 : RepL G (p.add L) (upd H1 L (.lst vs)) ds vs := repL_keep trivial (Keep.new hL) _ _ (repL_out wd.1 wd.2.1 wd.2.2 _ _ rs)
  refine hv (p.add L) _ _ (ρ.set n none) s1 _ e1 (pk1.add hL) (FinS.calm (q := p.add L) fin1 fun d s2 v H2 k2 pk2 rd fin2 => ?_)
  have hL2 : H2 L = some (.lst vs) := k2 _ _ hnm upd_same
  have e2 := e1.keep trivial k2
  refine ⟨.ref L, by rw [List.getElem?_set]; simp [hn], ?_⟩
  refine hi (p.add L) _ _ (ρ.set n none) s2 _ e2 pk2 (FinS.calm (q := p.add L) fin2 fun kd s3 kv H3 k3 pk3 rk fin3 => ?_)
  cases kd <;> first
    | exact False.elim fin3
    | skip
  rename_i k
  obtain rfl : kv = .int k := rk
  dsimp only at fin3
  cases hj : ixN ds.length k with
  | none => rw [hj] at fin3; exact False.elim fin3
  | some j =>
    rw [hj] at fin3
    have hL3 : H3 L = some (.lst vs) := k3 _ _ hnm hL2
    refine ⟨L, vs, k, j, rfl, rfl, hL3, by rw [← repL_len rs]; exact hj, ?_⟩
    have rs3 : RepL G (p.add L) H3 ds vs := repL_keep trivial (k2.trans k3) _ _ rs1
    have rd3 : Rep G (p.add L) H3 d v := rep_keep trivial k3 _ _ rd
    have back : ∀ a o, (upd H3 L (.lst (vs.set j v))) a = some o → ¬ (p.add L).out a → ¬ p.out a := fun a o _ h z => h (.inl z)
    have rs4 : RepL G p (upd H3 L (.lst (vs.set j v))) (ds.set j d) (vs.set j v) := repL_out (p := p.add L) (q := p) rfl rfl back _ _ (repL_upd ho _ _ (repL_set rs3 rd3))
    have e4 : EnvOk G p (upd H3 L (.lst (vs.set j v))) (σ.set n (some (.ref L))) (ρ.set n none) := ((e2.keep trivial k3).upd ho).out ⟨rfl, rfl, back⟩
    have e5 := e4.set (i := n) (d := .lst (ds.set j d)) (v := .ref L) ⟨L, _, rfl, pk1.free hL, upd_same, rs4⟩
    rw [List.set_set, List.set_set] at e5
    have kk : Keep p H1 (upd H3 L (.lst (vs.set j v))) := fun a o nm h => by
      rw [upd_ne (ne_of_none h hL)]
      exact k3 a o nm (k2 a o nm (by rw [upd_ne (ne_of_none h hL)]; exact h))
    exact fin3 _ _ kk (pk3.upd ho hnm).sub e5
theorem dss_lset {n : Nat} {x : Str} {rest : List Stmt} {t : TS} {mr : MS} {px px' p1 p2 : Pos} (hN : X.N.Nodup) (hx : X.N[n]? = some x) (hs1 : DS G X W (.Assign [.Name x px] (.List es pos) p1) (tAsg (tLst tA) (gName n)) (sasg (fun ρ => mbind (fA ρ) lstD) (gnm n))) (ha : DA G X W es tA fA)
    (hnm : PE X (.Name x px') (tVar n)) (hi : DE G X W i ti fi) (hv : DE G X W e tv fv) (hr : DSs G X W rest t mr)
    (has : ∀ v, assign (.Subscript (.Name x px') i pos') X.env v = (do
      let ov ← holding [v] (eval (.Name x px') X.env)
      let iv ← holding [v, ov] (eval i X.env)
      standAt pos'
      holding [v, ov, iv] (setItem ov iv v)
      release [v, ov, iv] []) := by intro _; rfl)
    (hs : swapsWithSole [.Subscript (.Name x px') i pos'] e p2.line X.env = pure false := by rfl) (hw : swappedStores [.Subscript (.Name x px') i pos'] e X.env = pure none := by rfl)
    (h1 : (assignEach [.Subscript (.Name x px') i pos'] X.env).map (·.2) = [assign (.Subscript (.Name x px') i pos') X.env] := by rfl) :
    DSs G X W (.Assign [.Name x px] (.List es pos) p1 :: .Assign [.Subscript (.Name x px') i pos'] e p2 :: rest) (tSeq (tAsg (tLst tA) (gName n)) (tSeq (tAsg tv (gSub (tVar n) ti rSetL)) t)) (sseq (sLset n fA fi fv) mr) := by
  refine ⟨pss_cons hs1.ps (pss_cons (ps_asg hv.pe (pg_sub hnm hi.pe set_list has) hs hw h1) hr.ps), ?_⟩
  intro p σ H ρ s Z en pk fin
  have z := run_seq (run_lset (n := n) ha.run hi.run hv.run) hr.run p σ H ρ s Z en pk fin
  exact z
end
end Tw

set_option Elab.async false
set_option linter.all false
set_option maxRecDepth 100000
set_option maxHeartbeats 4000000
set_option autoImplicit false
namespace Tw
open PySem L2 PySem.Spec PyProof.Rows
section
variable {K : PySem.W.Frag} {G : Gt} {W : WX} {X : Cx}
variable {P : Program} {w : World} {mg : Str → Option Value} {base : Heap}
/-! ### a def of the text, with defaults or without -/
theorem ok_fd {x qual : Str} {st : Stmt} {f : Addr} {fd : FuncData} {N ps : List Str} {k n : Nat} {b : MS} {dvs : List V} (F : FunD K x qual (defArgs st) (defBody st) (defScope st) dvs [] f fd) (S : FnScope N ps (defScope st)) (hn : ps.length = n)
    (hb : ∀ (cdv : Value) (A : Around) (outer : List Env) (s : Shared) (H : Hp) (E : XK), Room k (A.deeper (envOfC qual (defScope st) s.heap.objs.size f cdv)) →
      ∃ t, DSs G (cxOf (L2.CX P w) P w K mg base N qual (defScope st) f cdv A outer s H E) (fun c d _ H' => E c d H') (defBody st) t b) :
    FnOk P w K mg base (L2.CX P w) (k + 1) f fd ps (spM G n (mdef N.length b)) := by
  refine F.ok S (fun vs H Q E h => by rw [h.1, hn]) fun cdv A outer s H vs Q E hr h => ?_
  obtain ⟨t, dt⟩ := hb cdv A outer s H E hr
  refine ⟨t, dt.ps, ?_⟩
  obtain ⟨_, p, ds, s1, rs, pk, fin⟩ := h
  refine dt.run p _ H (startL N.length ds) s1 _ (env_start rs) pk ?_
  unfold mdef at fin
  cases q : b (startL N.length ds) s1 with
  | nx ρ s' => rw [q] at fin; exact fun σ' H' k pk' _ => fin _ H' k pk' rfl
  | ret d s' => rw [q] at fin; exact fun v H' k pk' rd => fin v H' k pk' rd
  | exc c ns xs ρ s' => rw [q] at fin; exact fun dd σ' H' k pk' _ x => fin dd H' k pk' x
  | bk ρ s' => rw [q] at fin; exact False.elim fin
  | ct ρ s' => rw [q] at fin; exact False.elim fin
  | bad => rw [q] at fin; exact False.elim fin
theorem fund_mk {x qual : Str} {st : Stmt} {f : Addr} {oc : Value} {od an : Option Addr} {osl : Array (Option Value)} {kV doc pm cdv ct : Value} (l : K.lookup f = some ⟨oc, od, .func (PySem.W.fnOf x qual (defArgs st) (defBody st) (defScope st) .none kV doc pm an cdv ct), osl⟩)
    (c : PySem.W.codeIn K cdv qual = true) (k : PySem.W.keepIn K (.ref f) = true) : FunD K x qual (defArgs st) (defBody st) (defScope st) [] [] f (PySem.W.fnOf x qual (defArgs st) (defBody st) (defScope st) .none kV doc pm an cdv ct) :=
  ⟨⟨oc, od, .none, kV, doc, pm, an, cdv, ct, osl, rfl, l, c, .inl ⟨rfl, rfl⟩, .inl rfl⟩, k⟩
theorem fund_mk1 {x qual : Str} {st : Stmt} {f T : Addr} {oc toc : Value} {od an tod : Option Addr} {osl tsl : Array (Option Value)} {kV doc pm cdv ct : Value} {tn : Nat} {its : List Value} {dvs : List V} (l : K.lookup f = some ⟨oc, od, .func (PySem.W.fnOf x qual (defArgs st) (defBody st) (defScope st) (.ref T) kV doc pm an cdv ct), osl⟩)
    (c : PySem.W.codeIn K cdv qual = true) (k : PySem.W.keepIn K (.ref f) = true) (ht : K.lookup T = some ⟨toc, tod, .seq its.toArray tn, tsl⟩) (hv : Vals dvs its) (hne : dvs ≠ []) : FunD K x qual (defArgs st) (defBody st) (defScope st) dvs [] f (PySem.W.fnOf x qual (defArgs st) (defBody st) (defScope st) (.ref T) kV doc pm an cdv ct) :=
  ⟨⟨oc, od, .ref T, kV, doc, pm, an, cdv, ct, osl, rfl, l, c, .inr ⟨hne, T, _, its, tn, rfl, ht, rfl, hv⟩, .inl rfl⟩, k⟩
/-! ### is not of bools -/
def notBo : D → D → M D := fun x y => match x, y with
  | .bl i, .bl j => mret (.bl (!decide (i = j)))
  | _, _ => mbad
theorem prim_notBo : Prim2 G rNotB notBo := by
  intro W p σ H s x y vx vy Q pk rx ry fin
  unfold notBo at fin
  split at fin
  · obtain rfl : vx = _ := rx
    obtain rfl : vy = _ := ry
    exact ⟨_, _, rfl, rfl, fin _ H Keep.refl pk rfl⟩
  · exact False.elim fin
/-! ### gcd of four -/
open PySem.Calls in
theorem run_gcd4 (a : Int) (t : Tok) (b : Int) (u : Tok) (c : Int) (v : Tok) (d : Int) (x : Tok) :
    Gives (Builtin.«math.gcd» ⟨[.int a t, .int b u, .int c v, .int d x], []⟩) (.int (((((Nat.gcd 0 a.natAbs).gcd b.natAbs).gcd c.natAbs).gcd d.natAbs : Nat) : Int)) :=
  .of_wp fun M A E s Q h => by obtain ⟨hp, g, dd, tk, os⟩ := s; wp_walk; exact ⟨_, rfl, h⟩
open PySem.Calls in
theorem args_gcd4 (a b c d : Value) : argsOk "math.gcd" ⟨[a, b, c, d], []⟩ := by unfold argsOk; kernel_rfl
theorem gcd4_eq (a b c d : Int) : ((((Nat.gcd 0 a.natAbs).gcd b.natAbs).gcd c.natAbs).gcd d.natAbs) = ((a.natAbs.gcd b.natAbs).gcd c.natAbs).gcd d.natAbs := by rw [Nat.gcd_zero_left]
def rGcd4 : List V → Hp → VK → Prop := fun vs H Q => ∃ a b c d : Int, vs = [.int a, .int b, .int c, .int d] ∧ Q (.int ((((a.natAbs.gcd b.natAbs).gcd c.natAbs).gcd d.natAbs : Nat) : Int)) H
theorem cr_gcd4 : CallR X (.builtin "math.gcd") rGcd4 := by
  intro pins s σ H vs us Q I r h
  obtain ⟨a, b, c, d, rfl, q⟩ := h
  cases r with | cons r1 r => cases r with | cons r2 r => cases r with | cons r3 r => cases r with | cons r4 r =>
  cases r
  obtain ⟨t1, rfl⟩ := r1
  obtain ⟨t2, rfl⟩ := r2
  obtain ⟨t3, rfl⟩ := r3
  obtain ⟨t4, rfl⟩ := r4
  have g := run_gcd4 a t1 b t2 c t3 d t4
  rw [gcd4_eq] at g
  exact call_function_meets PySem.W.MGF.kind_gcd PySem.W.MGF.plain_gcd PySem.W.MGF.entry_gcd (args_gcd4 _ _ _ _) g.meets ⟨.int _, H, I.tok _, ⟨_, rfl⟩, q⟩
def gcd4D (ds : List D) : M D := match ds with
  | [.int a, .int b, .int c, .int d] => mret (.int ((((a.natAbs.gcd b.natAbs).gcd c.natAbs).gcd d.natAbs : Nat) : Int))
  | _ => mbad
theorem prim_gcd4 : PrimL G rGcd4 gcd4D := by
  intro W p σ H s xs vs Q pk rs fin
  unfold gcd4D at fin
  split at fin
  · obtain ⟨v1, _, rfl, r1, v2, _, rfl, r2, v3, _, rfl, r3, v4, _, rfl, r4, hz⟩ := rs
    obtain rfl := hz
    exact ⟨_, _, _, _, by rw [(show v1 = _ from r1), (show v2 = _ from r2), (show v3 = _ from r3), (show v4 = _ from r4)], fin _ H Keep.refl pk rfl⟩
  · exact False.elim fin
/-! ### a, b = e where e is a tuple or a list -/
def gEi (K : PySem.W.Frag) (n : Nat) (gs : TGs) : TG := fun v σ H Q => gTup K n gs v σ H Q ∨ gLst K n gs v σ H Q
def gem (n : Nat) (g : List D → Loc → Option Loc) : D → Loc → Option Loc := fun d ρ => match d with
  | .tup ds => if decide (ds.length = n) = true then g ds ρ else none
  | .lst ds => if decide (ds.length = n) = true then g ds ρ else none
  | _ => none
theorem g_sq {es : List Expr} {pos : Pos} {vs : List Nat} {n k : Nat} {gs : TGs} {g2 : List D → Loc → Option Loc} (hK : X.K = K) (hc : X.calm = true) (h : DGs G X vs es gs g2) (hn : (assignEach es X.env).length = n := by rfl) (hst : (assignEach es X.env).findIdx? (·.1) = none := by rfl) : DG G X vs (.Tuple es k pos) (gEi K n gs) (gem n g2) := by
  have a := g_tup (k := k) (pos := pos) hK hc h hn hst
  have b := g_lst (k := k) (pos := pos) hK hc h hn hst
  refine ⟨⟨fun pins s σ H v u Q I r hw => ?_⟩, fun p σ H ρ d v Q e rd h => ?_⟩
  · rcases hw with hw | hw
    · exact a.pg.run pins s σ H v u Q I r hw
    · exact b.pg.run pins s σ H v u Q I r hw
  · cases d <;> first
      | exact False.elim h
      | exact .inl (a.run p σ H ρ _ v Q e rd h)
      | exact .inr (b.run p σ H ρ _ v Q e rd h)
/-! ### C.m(..), what is raised let out -/
section
variable {o e : Expr} {es : List Expr} {to : TE} {fo : Loc → M D} {pos apos : Pos} {tA : TA} {fA : Loc → M (List D)} {m : Str}
variable {CX : CXT} {k : Nat} {C p g : Addr} {mc : Value} {fd : FuncData} {ps : List Str} {sp : Sp} {dvs : List V} {dl : List Value} {E : L2.St → XK} {t : TA} {pl : Sem Bool}
theorem run_cmS {pins : List (Addr × Obj)} {σ : L2.St} {H : Hp} {s : Shared} {q : Addr} {Q : VK} {us : List Value} {vs : List V} (F : FnOk X.prog X.w X.K X.mg X.base CX k g fd ps sp) (hr : Room k X.A) (hb : L2.Binds X.K fd ps dl) (hd : Vals dvs dl) (hx : ∀ σ, PassesAt CX X σ (E σ)) (I : Inv X ((q, PySem.W.methodObj (.ref g) (.ref C)) :: pins) σ H s)
    (r : Vals vs us) (h : sp (.ref C :: (vs ++ dvs)) H Q (E σ)) : wpAny (model X.prog X.w) X.A (call (.ref q) us) (EP X pins σ Q) X.xe s := by
  have r2 : Vals ((.ref C :: vs) ++ dvs) ((.ref C :: us) ++ dl) := Vals.append (.cons rfl r) hd
  have hl : ((.ref C :: us) ++ dl).length = ps.length := by rw [← r2.length]; exact F.len _ _ _ _ h
  have z : wpAny (model X.prog X.w) X.A (call (.ref q) us) (EP X ((q, PySem.W.methodObj (.ref g) (.ref C)) :: pins) σ Q) X.xe s := by
    refine wpAny_call (PySem.W.method_call (ClX.pin_at I) (codeAny_mono (F.run X.A X.stack s H ⟨.ref C :: us, []⟩ ((.ref C :: us) ++ dl) ((.ref C :: vs) ++ dvs) Q (E σ) hr I.env0 (hb s (.ref C :: us) I.kIn hl) r2 h) fun r s' hq => ?_))
    cases r with
    | error e => exact hx σ _ H s e s' I hq
    | ok fl =>
      cases fl with
      | ret u => exact I.after hq
      | next => exact False.elim hq
      | brk => exact False.elim hq
      | cont => exact False.elim hq
  exact thn z fun _ _ y => ClX.unpinE y
def tCMethS (C : Addr) (sp : Sp) (dvs : List V) (E : L2.St → XK) (ta : TE) (t : TA) : TE := fun σ H Q => ta σ H fun x H1 => x = .ref C ∧ t σ H1 fun vs H2 => sp (.ref C :: (vs ++ dvs)) H2 Q (E σ)
theorem pe_cmethS (he : PE X o to) (r : ClX.CRead X.K C mc) (c : ClX.CMet X.K C mc m p g) (F : FnOk X.prog X.w X.K X.mg X.base CX k g fd ps sp) (hr : Room k X.A) (hb : L2.Binds X.K fd ps dl) (hd : Vals dvs dl) (hx : ∀ σ, PassesAt CX X σ (E σ)) (ha : PA X (e :: es) t)
    (hst : starEach (e :: es) X.env = (false, eval e X.env) :: starEach es X.env := by rfl) (hpl : (backTo pos (starEach es X.env)).any (·.1) = false := by rfl)
    (ht : eval (.Call (.Attribute o m apos) (e :: es) [] pos) X.env = (do
      let ov ← eval o X.env
      standAt apos.atName
      let (f, first) ← holding [ov] (getMethod ov m pl)
      callWith pos f first (backTo pos (starEach (e :: es) X.env)) (backToKw pos (keywordEach [] X.env))) := by rfl) :
    PE X (.Call (.Attribute o m apos) (e :: es) [] pos) (tCMethS C sp dvs E to t) := by
  refine ⟨fun pins s σ H Q I h => ?_⟩
  refine PySem.W.methodCall_KW (pl := pl) (thn (he.run pins s σ H _ I h) fun u s1 ⟨x, H1, I1, rx, ex, q⟩ => ?_) ht
  subst ex
  obtain rfl : u = Value.ref C := rx
  refine ClX.getmethcm_ok I1 r c fun s2 I2 => ?_
  refine ClX.callwith_cm I2 (ClX.base_none I1 (Nat.le_refl _)) c.fi (thn (ha.run pos _ s2 σ H1 _ I2 q) fun us s3 ⟨vs, H2, I3, rv, q2⟩ => ⟨⟨ClX.pin_at I3, I3.kIn⟩, ?_⟩) hst hpl
  exact run_cmS F hr hb hd hx I3 rv q2
theorem pe_cmethS0 (he : PE X o to) (r : ClX.CRead X.K C mc) (c : ClX.CMet X.K C mc m p g) (F : FnOk X.prog X.w X.K X.mg X.base CX k g fd ps sp) (hr : Room k X.A) (hb : L2.Binds X.K fd ps dl) (hd : Vals dvs dl) (hx : ∀ σ, PassesAt CX X σ (E σ))
    (ht : eval (.Call (.Attribute o m apos) [] [] pos) X.env = (do
      let ov ← eval o X.env
      standAt apos.atName
      let (f, first) ← holding [ov] (getMethod ov m pl)
      callWith pos f first (backTo pos (starEach [] X.env)) (backToKw pos (keywordEach [] X.env))) := by rfl) :
    PE X (.Call (.Attribute o m apos) [] [] pos) (tCMethS C sp dvs E to tNil) := by
  refine ⟨fun pins s σ H Q I h => ?_⟩
  refine PySem.W.methodCall_KW (pl := pl) (thn (he.run pins s σ H _ I h) fun u s1 ⟨x, H1, I1, rx, ex, q⟩ => ?_) ht
  subst ex
  obtain rfl : u = Value.ref C := rx
  refine ClX.getmethcm_ok I1 r c fun s2 I2 => ?_
  exact PySem.W.callWith_M0 ⟨ClX.pin_at I2, I2.kIn⟩ c.fi (run_cmS F hr hb hd hx I2 .nil q)
def kCmS (c : Nat) (md : List D → M D) (dd : List D) (fo : Loc → M D) (fA : Loc → M (List D)) : Loc → M D := fun ρ => mbind (fo ρ) fun d => match d with
  | .cls k => if (k == c) = true then mbind (fA ρ) fun ds => md (.cls c :: (ds ++ dd)) else mbad
  | _ => mbad
theorem run_cmtS {c j N : Nat} {md : List D → M D} {dd : List D} (hdd : ∀ p H, RepL G p H dd dvs) (ho : RunG G W (RelE G) to fo) (ha : RunG G W (RelA G) tA fA) (hl : LenA fA j) (hj : j + dd.length + 1 = N) :
    RunG G W (RelE G) (tCMethS (G.cls c) (spM G N md) dvs (WE W) to tA) (kCmS c md dd fo fA) := by
  intro p σ H ρ s Q e pk fin
  refine ho p σ H ρ s _ e pk (FinG.step (RA := RelE G) fin fun d s1 v H1 k1 pk1 rd fin1 => ?_)
  cases d <;> try (exact False.elim fin1)
  rename_i kk
  dsimp only at fin1
  by_cases hk : (kk == c) = true
  · rw [if_pos hk] at fin1
    obtain rfl : kk = c := beq_iff_eq.mp hk
    refine ⟨rd, ?_⟩
    have fin2 : FinG G W (RelE G) p σ H1 Q (obind (fA ρ s1) fun ds => md (.cls kk :: (ds ++ dd))) := fin1
    refine ha p σ H1 ρ s1 _ (e.keep pk.at k1) pk1 ?_
    cases h2 : fA ρ s1 with
    | ok ds s3 =>
      rw [h2] at fin2
      intro vs H2 k2 pk2 rs
      have hlen : (ds ++ dd).length + 1 = N := by rw [List.length_append, hl ρ s1 ds s3 h2]; exact hj
      have rr : RepL G p H2 (ds ++ dd) (vs ++ dvs) := repL_app rs (hdd p H2)
      exact ⟨by rw [List.length_cons, ← repL_len rr]; exact hlen, p, .cls kk :: (ds ++ dd), s3, ⟨.ref (G.cls kk), vs ++ dvs, rfl, rfl, rr⟩, pk2, (FinG.keep k2 fin2).wx fun _ _ _ z => z⟩
    | exc c ns xs s3 => rw [h2] at fin2; exact fin2
    | bad => rw [h2] at fin2; exact fin2
  · rw [if_neg hk] at fin1; exact False.elim fin1
theorem x_cmtS {c j N : Nat} {md : List D → M D} {dd : List D} (M : Cmt X.K (G.cls c) m ps dl mc p g fd) (F : FnOk X.prog X.w X.K X.mg X.base (L2.CX X.prog X.w) k g fd ps (spM G N md)) (hr : Room k X.A) (tk : Takes X W) (hd : Vals dvs dl) (hdd : ∀ p H, RepL G p H dd dvs)
    (ho : DE G X W o to fo) (ha : DA G X W (e :: es) tA fA) (hl : LenA fA j) (hj : j + dd.length + 1 = N)
    (hst : starEach (e :: es) X.env = (false, eval e X.env) :: starEach es X.env := by rfl) (hpl : (backTo pos (starEach es X.env)).any (·.1) = false := by rfl)
    (ht : eval (.Call (.Attribute o m apos) (e :: es) [] pos) X.env = (do
      let ov ← eval o X.env
      standAt apos.atName
      let (f, first) ← holding [ov] (getMethod ov m pl)
      callWith pos f first (backTo pos (starEach (e :: es) X.env)) (backToKw pos (keywordEach [] X.env))) := by rfl) :
    DE G X W (.Call (.Attribute o m apos) (e :: es) [] pos) (tCMethS (G.cls c) (spM G N md) dvs (WE W) to tA) (kCmS c md dd fo fA) :=
  ⟨pe_cmethS ho.pe M.rd M.at_ F hr M.b hd (fun σ => passAt tk σ) ha.pa hst hpl ht, run_cmtS hdd ho.run ha.run hl hj⟩
theorem x_cmtS0 {c N : Nat} {md : List D → M D} {dd : List D} (M : Cmt X.K (G.cls c) m ps dl mc p g fd) (F : FnOk X.prog X.w X.K X.mg X.base (L2.CX X.prog X.w) k g fd ps (spM G N md)) (hr : Room k X.A) (tk : Takes X W) (hd : Vals dvs dl) (hdd : ∀ p H, RepL G p H dd dvs)
    (ho : DE G X W o to fo) (hj : 0 + dd.length + 1 = N)
    (ht : eval (.Call (.Attribute o m apos) [] [] pos) X.env = (do
      let ov ← eval o X.env
      standAt apos.atName
      let (f, first) ← holding [ov] (getMethod ov m pl)
      callWith pos f first (backTo pos (starEach [] X.env)) (backToKw pos (keywordEach [] X.env))) := by rfl) :
    DE G X W (.Call (.Attribute o m apos) [] [] pos) (tCMethS (G.cls c) (spM G N md) dvs (WE W) to tNil) (kCmS c md dd fo aNil) :=
  ⟨pe_cmethS0 ho.pe M.rd M.at_ F hr M.b hd (fun σ => passAt tk σ) ht, run_cmtS hdd ho.run (a_nil (X := X)).run l_nil hj⟩
end
/-! ### an own operator that may raise -/
section
variable {a b : Expr} {ta tb : TE} {fa fb : Loc → M D} {pos : Pos}
abbrev R2X := V → V → L2.St → Hp → VK → Prop
def OpRX (X : Cx) (f : Value → Value → Sem Value) (r : R2X) : Prop :=
  ∀ (pins : List (Addr × Obj)) (s : Shared) (σ : L2.St) (H : Hp) (x y : V) (v u : Value) (Q : VK), Inv X pins σ H s → RelV x v → RelV y u → r x y σ H Q →
    wpAny (model X.prog X.w) X.A (f v u) (EP X pins σ Q) X.xe s
def Prim2X (G : Gt) (W : WX) (r : R2X) (f : D → D → M D) : Prop :=
  ∀ (p : Fm) (σ : L2.St) (H : Hp) (s : Pen) (x y : D) (vx vy : V) (Q : VK), PenOk G p H s → Rep G p H x vx → Rep G p H y vy → FinG G W (RelE G) p σ H Q (f x y s) → r vx vy σ H Q
def tOpX (r : R2X) (ta tb : TE) : TE := fun σ H Q => ta σ H fun x H1 => tb σ H1 fun y H2 => r x y σ H2 Q
theorem x_opX {op : Operator} {r : R2X} {f : D → D → M D} (ho : OpRX X (binaryOp op) r) (hp : Prim2X G W r f) (ha : DE G X W a ta fa) (hb : DE G X W b tb fb) : DE G X W (.BinOp a op b pos) (tOpX r ta tb) (kOp f fa fb) := by
  refine ⟨⟨fun pins s σ H Q I h => wpAny_BinOp (binT (R := fun x y H2 => r x y σ H2 Q) ha.pe hb.pe I h fun v u s2 x y H2 I2 rx ry q => ho pins s2 σ H2 x y v u Q I2 rx ry q)⟩, fun p σ H ρ s Q e pk fin => ?_⟩
  refine ha.run p σ H ρ s _ e pk (FinG.step (RA := RelE G) fin fun x s1 vx H1 k1 pk1 rx fin1 => ?_)
  refine hb.run p σ H1 ρ s1 _ (e.keep pk.at k1) pk1 (FinG.step (RA := RelE G) fin1 fun y s2 vy H2 k2 pk2 ry fin2 => ?_)
  exact hp p σ H2 s2 x y vx vy Q pk2 (rep_keep pk1.at k2 x vx rx) ry fin2
variable {op : Operator} {C g : Addr} {fd : FuncData} {ps : List Str} {k n : Nat} {sp : Sp} {md : List D → M D} {E : L2.St → XK}
def rOwnX (C : Addr) (sp : Sp) (E : L2.St → XK) : R2X := fun x y σ H Q => ∃ a dx fs b dy gs, x = .ref a ∧ y = .ref b ∧ H a = some (.ins C dx fs) ∧ H b = some (.ins C dy gs) ∧ sp [x, y] H Q (E σ)
theorem op_ownX (M : Opr X.K C op g fd ps) (F : FnOk X.prog X.w X.K X.mg X.base (L2.CX X.prog X.w) k g fd ps sp) (hr : Room k X.A) (hx : ∀ σ, PassesAt (L2.CX X.prog X.w) X σ (E σ)) : OpRX X (binaryOp op) (rOwnX C sp E) := by
  intro pins s σ H x y v u Q I rx ry h
  obtain ⟨a, dx, fs, b, dy, gs, rfl, rfl, ha, hb, q⟩ := h
  obtain rfl : v = Value.ref a := rx
  obtain rfl : u = Value.ref b := ry
  obtain ⟨ox, od, J⟩ := inst_of I ha
  obtain ⟨oy, oe, J'⟩ := inst_of I hb
  exact bin_same I.kIn J J' M.first M.at_ M.isf (wpAny_mono (run_fnSD (E := E) (us := [.ref a, .ref b]) (vs := [.ref a, .ref b]) (dvs := []) F hr M.b .nil (hx σ) I (.cons rfl (.cons rfl .nil)) q) (fun _ _ z => back_of z) fun _ _ z => z)
def ownX (n : Nat) (md : List D → M D) : D → D → M D := fun x y => match x, y with
  | .ins k _ _, .ins j _ _ => if (k == n && j == n) = true then md [x, y] else mbad
  | _, _ => mbad
theorem prim_ownX : Prim2X G W (rOwnX (G.cls n) (spM G 2 md) (WE W)) (ownX n md) := by
  intro p σ H s x y vx vy Q pk rx ry fin
  unfold ownX at fin
  split at fin
  · split at fin
    · rename_i kx nx xs ky ny ys hk
      rw [Bool.and_eq_true] at hk
      obtain rfl : kx = n := beq_iff_eq.mp hk.1
      obtain rfl : ky = kx := beq_iff_eq.mp hk.2
      obtain ⟨a, dx, vs, rfl, a0, a1, al, as⟩ := id rx
      obtain ⟨b, dy, us, rfl, b0, b1, bl, bs⟩ := id ry
      exact ⟨a, dx, _, b, dy, _, rfl, rfl, a1, b1, rfl, p, [.ins _ nx xs, .ins _ ny ys], s, ⟨_, _, rfl, rx, _, _, rfl, ry, rfl⟩, pk, FinG.wx fin fun _ _ _ z => z⟩
    · exact False.elim fin
  · exact False.elim fin
theorem x_own (M : Opr X.K (G.cls n) op g fd ps) (F : FnOk X.prog X.w X.K X.mg X.base (L2.CX X.prog X.w) k g fd ps (spM G 2 md)) (hr : Room k X.A) (tk : Takes X W) (ha : DE G X W a ta fa) (hb : DE G X W b tb fb) :
    DE G X W (.BinOp a op b pos) (tOpX (rOwnX (G.cls n) (spM G 2 md) (WE W)) ta tb) (kOp (ownX n md) fa fb) := x_opX (op_ownX M F hr (fun σ => passAt tk σ)) prim_ownX ha hb
end
/-! ### the error that is handled: isinstance, e.f -/
section
def ExAt (H : Hp) (d : Option Addr) : Prop := ∀ b, d = some b → ∃ gs, H b = some (.xd gs)
def rIsX (K : PySem.W.Frag) (D a : Addr) (d : Option Addr) : List V → Hp → VK → Prop := fun xs H Q => ∃ (c : V) (cv : Value) (b : Bool), xs = [.ref a, c] ∧ (∀ u, RelV c u → u = cv) ∧ PySem.W.kitOne K (.ref D) cv = some b ∧ ExAt H d ∧ Q (.bl b) H
theorem call_isX {a D : Addr} {d : Option Addr} {oe : Obj} {pn : List (Addr × Obj)} (C : ExcC X.K D) (hz : Zc (.ref D) d oe) (hf : ∃ vs, oe.data = .fields vs) : CallR (X.suite a ((a, oe) :: pn)) (.builtin "isinstance") (rIsX X.K D a d) := by
  intro pins s σ H xs us Q I r h
  obtain ⟨c, cv, b, rfl, hcv, e, hx, q⟩ := h
  cases r with | cons rx rr => cases rr with | cons rt rr =>
  cases rr
  cases rx
  have ec := hcv _ rt
  subst ec
  obtain ⟨hget, _⟩ := I.pin (a, oe) (List.mem_append.mpr (.inl List.mem_cons_self))
  obtain ⟨vs, hv⟩ := hf
  have J : ∃ od, PySem.W.InstAt s.heap a oe D od := by
    cases d with
    | none =>
      obtain ⟨oc, od, oda, osl⟩ := oe
      obtain ⟨h1, h2⟩ := hz
      dsimp only at h1 h2 hv
      subst h1 h2 hv
      exact ⟨none, hget, rfl, rfl, trivial⟩
    | some dd =>
      obtain ⟨gs, hdd⟩ := hx dd rfl
      obtain ⟨mA, hns, hr⟩ := (show ObjOk X.prog X.w H s.heap dd (.xd gs) from I.hok dd _ hdd)
      obtain ⟨od, ho, hl⟩ := lookIn_ns hns
      exact ⟨some od, hget, hz.1, by unfold PySem.W.notCls; rw [hv] <;> rfl, by rw [hz.2]; exact ho⟩
  obtain ⟨od, J⟩ := J
  have hc : (PySem.W.clsIn X.K D).isSome = true := by
    obtain ⟨cd, hc, _⟩ := PySem.W.any_some C.hd
    rw [hc]
    rfl
  exact PySem.W.kia_one (PySem.W.kitx_exc hc C.hg C.hk C.hs C.ha C.hn C.ht C.hm) I.kIn J e (fun z => nomatch z) fun tk => ⟨.bl b, H, I.kept (t' := tk) fun _ _ z => z, rfl, q⟩
def isiX (ans : String ⊕ Nat → String ⊕ Nat → Option Bool) (ds : List D) : M D := match ds with
  | [.err c _ _, .ty T] => (match ans (.inr c) (.inl T) with
    | some b => mret (.bl b)
    | none => mbad)
  | [.err c _ _, .cls n] => (match ans (.inr c) (.inr n) with
    | some b => mret (.bl b)
    | none => mbad)
  | _ => mbad
/-- what a caught error's dict is in the heap -/
theorem exat_of {p : Fm} {H : Hp} {a : Addr} {c c2 : Nat} {dd : Option Addr} {ns : List Str} {xs : List D} {v : V} (r : Rep (G.at a c dd) p H (.err c2 ns xs) v) : v = .ref a ∧ c2 = c ∧ ExAt H dd := by
  obtain ⟨a2, d2, us, rfl, q0, _, q1⟩ := r
  have q0' : (a, c, dd) = (a2, c2, d2) := Option.some.inj q0
  obtain ⟨rfl, q2⟩ := Prod.mk.inj q0'
  obtain ⟨rfl, rfl⟩ := Prod.mk.inj q2
  refine ⟨rfl, rfl, fun b hb => ?_⟩
  rcases q1 with ⟨_, e⟩ | ⟨b', gs, _, e, _, hb', _⟩
  · rw [e] at hb; cases hb
  · rw [e] at hb; cases hb; exact ⟨gs, hb'⟩
theorem x_isX {a : Addr} {oe : Obj} {pn : List (Addr × Obj)} {c : Nat} {dd : Option Addr} {ans : String ⊕ Nat → String ⊕ Nat → Option Bool} {p0 pos : Pos} {e : Expr} {es : List Expr} {tA : TA} {fA : Loc → M (List D)} (C : ExcC X.K (G.cls c)) (hz : Zc (.ref (G.cls c)) dd oe) (hf : ∃ vs, oe.data = .fields vs)
    (A : ∀ t b, ans (.inr c) t = some b → PySem.W.kitOne X.K (.ref (G.cls c)) (tyV G t) = some b)
    (hg : Gl (X.suite a ((a, oe) :: pn)) "isinstance") (hm : X.mg "isinstance" = none)
    (ha : DA (G.at a c dd) (X.suite a ((a, oe) :: pn)) W0 (e :: es) tA fA) (he : starEach (e :: es) X.env = (false, eval e X.env) :: starEach es X.env := by rfl) (hpl : (backTo pos (starEach es X.env)).any (·.1) = false := by rfl) :
    DE (G.at a c dd) (X.suite a ((a, oe) :: pn)) W0 (.Call (.Name "isinstance" p0) (e :: es) [] pos) (tCB (rIsX X.K (G.cls c) a dd) tA) (kCall (isiX ans) fA) := by
  refine ⟨pe_callB (call_isX C hz hf) hg hm (by decide +kernel) ha.pa (by decide) (by decide) he hpl, fun p σ H ρ s Q en pk fin => ?_⟩
  refine ha.run p σ H ρ s _ en pk (FinG.step (RA := RelA (G.at a c dd)) fin fun ds s1 vs H1 k1 pk1 rs fin1 => ?_)
  unfold isiX at fin1
  split at fin1
  · rename_i c2 ns xs T
    obtain ⟨v1, _, rfl, r1, v2, _, rfl, r2, hz2⟩ := rs
    obtain rfl := hz2
    obtain ⟨rfl, rfl, hx⟩ := exat_of r1
    obtain rfl : v2 = .ty T := r2
    cases q : ans (.inr c2) (.inl T) with
    | none => rw [q] at fin1; exact False.elim fin1
    | some b =>
      rw [q] at fin1
      exact ⟨_, _, b, rfl, fun u r => r, A _ _ q, hx, fin1 _ H1 Keep.refl pk1 rfl⟩
  · rename_i c2 ns xs n
    obtain ⟨v1, _, rfl, r1, v2, _, rfl, r2, hz2⟩ := rs
    obtain rfl := hz2
    obtain ⟨rfl, rfl, hx⟩ := exat_of r1
    obtain rfl : v2 = .ref (G.cls n) := r2
    cases q : ans (.inr c2) (.inr n) with
    | none => rw [q] at fin1; exact False.elim fin1
    | some b =>
      rw [q] at fin1
      exact ⟨_, _, b, rfl, fun u r => r, A _ _ q, hx, fin1 _ H1 Keep.refl pk1 rfl⟩
  · exact False.elim fin1
def kXf (f : Str) (fe : Loc → M D) : Loc → M D := fun ρ => mbind (fe ρ) fun d => match d with
  | .err _ ns xs => (match fldOf ns xs f with
    | some x => mret x
    | none => mbad)
  | _ => mbad
theorem fldOf_ix : ∀ {ns : List Str} {xs : List D} {f : Str} {d : D}, fldOf ns xs f = some d → ∃ i : Nat, ns[i]? = some f ∧ xs[i]? = some d
  | [], xs, f, d, h => by simp [fldOf] at h
  | n :: ns, [], f, d, h => by simp [fldOf] at h
  | n :: ns, x :: xs, f, d, h => by
    unfold fldOf at h
    rw [List.zip_cons_cons] at h
    simp only [List.lookup] at h
    split at h
    · rename_i hb
      obtain rfl := beq_iff_eq.mp hb
      exact ⟨0, rfl, h⟩
    · obtain ⟨i, e1, e2⟩ := fldOf_ix (ns := ns) (xs := xs) (show fldOf ns xs f = some d from h)
      exact ⟨i + 1, e1, e2⟩
theorem x_xf {a : Addr} {oe : Obj} {pn : List (Addr × Obj)} {c : Nat} {dd : Option Addr} {e : Expr} {te : TE} {fe : Loc → M D} {pos : Pos} {n : Str} (T : XfC X.K (G.cls c)) (hno : PySem.W.findIn X.K (.ref (G.cls c)) n = some none)
    (hz : Zc (.ref (G.cls c)) dd oe) (hf : ∃ vs, oe.data = .fields vs) (he : DE (G.at a c dd) (X.suite a ((a, oe) :: pn)) W0 e te fe) (hb : attributeBase e n X.env (eval e X.env) = eval e X.env := by rfl) :
    DE (G.at a c dd) (X.suite a ((a, oe) :: pn)) W0 (.Attribute e n pos) (tXf a (.ref (G.cls c)) dd (G.cls c) n te) (kXf n fe) := by
  refine ⟨pe_xf T hno hz hf he.pe hb, fun p σ H ρ s Q en pk fin => ?_⟩
  refine he.run p σ H ρ s _ en pk (FinG.step (RA := RelE (G.at a c dd)) fin fun d s1 v H1 k1 pk1 rd fin1 => ?_)
  cases d <;> try (exact False.elim fin1)
  rename_i c2 ns xs
  dsimp only at fin1
  cases q : fldOf ns xs n with
  | none => rw [q] at fin1; exact False.elim fin1
  | some x =>
    rw [q] at fin1
    obtain ⟨i, h1, h2⟩ := fldOf_ix q
    obtain ⟨a2, d2, us, rfl, q0, rs, q1⟩ := id rd
    have q0' : (a, c, dd) = (a2, c2, d2) := Option.some.inj q0
    obtain ⟨rfl, q2⟩ := Prod.mk.inj q0'
    obtain ⟨rfl, rfl⟩ := Prod.mk.inj q2
    rcases q1 with ⟨e0, _⟩ | ⟨b', gs, _, e0, _, hb', hg⟩
    · subst e0; cases i <;> cases h1
    · obtain ⟨w, hw, rw'⟩ := repL_get rs h2
      exact ⟨rfl, rfl, b', gs, w, e0, hb', hg i n w h1 hw, fin1 _ H1 Keep.refl pk1 rw'⟩
end
end
end Tw

set_option Elab.async false
set_option linter.all false
set_option maxRecDepth 100000
set_option maxHeartbeats 4000000
set_option autoImplicit false
namespace Tw
open PySem L2 PySem.Spec PyProof.Rows
section
variable {K : PySem.W.Frag} {G : Gt} {W : WX} {X : Cx}
variable {a b c e : Expr} {es : List Expr} {ta te : TE} {fa fe : Loc → M D} {pos : Pos} {tA : TA} {fA : Loc → M (List D)}
def kMk (c : Nat) (m : List D → M D) (dd : List D) (fA : Loc → M (List D)) : Loc → M D := fun ρ => mbind (fA ρ) fun ds => mkD c m (ds ++ dd)
theorem x_mk {k n : Nat} {c : Nat} {g : Addr} {fd : FuncData} {ps : List Str} {dd : List D} {dvs : List V} {dl : List Value} {m : List D → M D} {x : Str} {p : Pos} (M : MkC X.K X.mg x (G.cls c) g fd ps dl) (F : FnOk X.prog X.w X.K X.mg X.base (L2.CX X.prog X.w) k g fd ps (spM G (n + 1) m)) (hr : Room (k + 1) X.A) (tk : Takes X W) (hd : Vals dvs dl) (hdd : ∀ p H, RepL G p H dd dvs)
    (ha : DA G X W (e :: es) tA fA) {j : Nat} (hl : LenA fA j) (hj : j + dd.length = n) (hg : Gl X x := by rfl) (hdb : (x == ("__debug__" : Str)) = false := by decide) (he : starEach (e :: es) X.env = (false, eval e X.env) :: starEach es X.env := by rfl) (hpl : (backTo pos (starEach es X.env)).any (·.1) = false := by rfl) :
    DE G X W (.Call (.Name x p) (e :: es) [] pos) (tMakeS (G.cls c) (spM G (n + 1) m) dvs (WE W) tA) (kMk c m dd fA) := x_make M F hr tk hd hdd ha hl hj hg hdb he hpl
def spar3 (i j l : Nat) (fA : Loc → M (List D)) : MS := fun ρ s => sof (fA ρ s) ρ fun ds s' => match ds with
  | [x, y, z] => .nx (((ρ.set i (some x)).set j (some y)).set l (some z)) s'
  | _ => .bad
theorem run_par3 {i j l : Nat} (ha : RunG G W (RelA G) tA fA) : RunS G W (tPar3 i j l tA) (spar3 i j l fA) := by
  intro p σ H ρ s Z e pk fin
  refine ha p σ H ρ s _ e pk (FinS.step fin (fun H1 s1 k1 pk1 => e.keep pk.at k1) fun ds s1 vs H1 k1 pk1 rs fin1 => ?_)
  split at fin1
  · obtain ⟨u, _, rfl, ru, v, _, rfl, rv, w, _, rfl, rw', hz⟩ := rs
    obtain rfl := hz
    exact ⟨u, v, w, rfl, fin1 _ H1 Keep.refl pk1 ((((e.keep pk.at k1).set ru).set rv).set rw')⟩
  · exact False.elim fin1
theorem ds_par3 {i j l : Nat} {x y z : Str} {px py pz pt : Pos} {kt k2 pt2} (hc : X.calm = true) (hN : X.N.Nodup) (hi : X.N[i]? = some x) (hj : X.N[j]? = some y) (hl : X.N[l]? = some z) (hij : i ≠ j) (hil : i ≠ l) (hjl : j ≠ l)
    (hx : X.env.scope.names.lookup x = some .local) (hy : X.env.scope.names.lookup y = some .local) (hz : X.env.scope.names.lookup z = some .local) (ha : DA G X W [a, b, c] tA fA)
    (hw : swappedStores [.Tuple [.Name x px, .Name y py, .Name z pz] kt pt] (.Tuple [a, b, c] k2 pt2) X.env = pure (some [x, y, z]) := by rfl)
    (hs : swapsWithSole [.Tuple [.Name x px, .Name y py, .Name z pz] kt pt] (.Tuple [a, b, c] k2 pt2) pos.line X.env = pure false := by rfl) :
    DS G X W (.Assign [.Tuple [.Name x px, .Name y py, .Name z pz] kt pt] (.Tuple [a, b, c] k2 pt2) pos) (tPar3 i j l tA) (spar3 i j l fA) := ⟨ps_par3 hc hN hi hj hl hij hil hjl hx hy hz ha.pa hw hs, run_par3 ha.run⟩
theorem x_gint {x : Str} {i : Int} {t : Tok} (hm : X.mg x = some (.int i t)) (hg : Gl X x := by rfl) (hd : (x == ("__debug__" : Str)) = false := by decide) : DE G X W (.Name x pos) (tC (.int i)) (kC (.int i)) := de_gint hg hm hd
/-! ### list(x), tuple(x) of lists and tuples -/
def listD (ds : List D) : M D := match ds with
  | [.lst xs] => mret (.lst xs)
  | [.tup xs] => mret (.lst xs)
  | _ => mbad
def tupleD (ds : List D) : M D := match ds with
  | [.lst xs] => mret (.tup xs)
  | [.tup xs] => mret (.tup xs)
  | _ => mbad
def rList (K : PySem.W.Frag) : List V → Hp → VK → Prop := fun xs H Q => ∃ p ys, xs = [.ref p] ∧ (SqL K H p ys ∨ SqT K H p ys) ∧ ∀ l, H l = none → Q (.ref l) (upd H l (.lst ys))
def rTuple (K : PySem.W.Frag) : List V → Hp → VK → Prop := fun xs H Q => ∃ p ys, xs = [.ref p] ∧ ((SqL K H p ys ∧ ∀ l, H l = none → Q (.ref l) (upd H l (.tup ys))) ∨ (SqT K H p ys ∧ Q (.ref p) H))
theorem cr_list (hK : X.K = K) : CallR X (.type "list") (rList K) := by subst hK; exact call_list_of
theorem cr_tuple (hK : X.K = K) : CallR X (.type "tuple") (rTuple K) := by subst hK; exact call_tuple_of
theorem prim_list : PrimL G (rList K) listD := by
  intro W p σ H s xs vs Q pk rs fin
  unfold listD at fin
  split at fin
  · obtain ⟨v, _, rfl, ⟨a, us, rfl, h0, h1, q1⟩, hz⟩ := rs
    obtain rfl := hz
    refine ⟨a, us, rfl, .inl (SqL.of h1), fun l hl => ?_⟩
    have k : Keep p H (upd H l (.lst us)) := Keep.new hl
    exact fin _ _ k (pk.new hl) ⟨l, us, rfl, pk.free hl, upd_same, repL_keep pk.at k _ _ q1⟩
  · obtain ⟨v, _, rfl, ⟨a, us, rfl, h0, h1, q1⟩, hz⟩ := rs
    obtain rfl := hz
    refine ⟨a, us, rfl, .inr (SqT.of h1), fun l hl => ?_⟩
    have k : Keep p H (upd H l (.lst us)) := Keep.new hl
    exact fin _ _ k (pk.new hl) ⟨l, us, rfl, pk.free hl, upd_same, repL_keep pk.at k _ _ q1⟩
  · exact fin.elim
theorem prim_tuple : PrimL G (rTuple K) tupleD := by
  intro W p σ H s xs vs Q pk rs fin
  unfold tupleD at fin
  split at fin
  · obtain ⟨v, _, rfl, ⟨a, us, rfl, h0, h1, q1⟩, hz⟩ := rs
    obtain rfl := hz
    refine ⟨a, us, rfl, .inl ⟨SqL.of h1, fun l hl => ?_⟩⟩
    have k : Keep p H (upd H l (.tup us)) := Keep.new hl
    exact fin _ _ k (pk.new hl) ⟨l, us, rfl, pk.free hl, upd_same, repL_keep pk.at k _ _ q1⟩
  · obtain ⟨v, _, rfl, rx, hz⟩ := rs
    obtain rfl := hz
    obtain ⟨a, us, rfl, h0, h1, q1⟩ := id rx
    exact ⟨a, us, rfl, .inr ⟨SqT.of h1, fin _ H Keep.refl pk rx⟩⟩
  · exact fin.elim
/-! ### isinstance, all kinds -/
def isiA (ans : String ⊕ Nat → String ⊕ Nat → Option Bool) (ds : List D) : M D := match ds with
  | [.ins _ _ _, _] => isiO ans ds
  | [_, .cls _] => isiO ans ds
  | _ => isiB ds
theorem prim_isiA {ans : String ⊕ Nat → String ⊕ Nat → Option Bool} (A : IsA G K ans) : PrimL G (rIsi K) (isiA ans) := by
  intro W p σ H s xs vs Q pk rs fin
  unfold isiA at fin
  split at fin
  · exact prim_isiO A W p σ H s _ vs Q pk rs fin
  · exact prim_isiO A W p σ H s _ vs Q pk rs fin
  · exact prim_isiB W p σ H s _ vs Q pk rs fin
theorem kit_self {C : Addr} : PySem.W.kitOne K (.ref C) (.ref C) = some true := by
  unfold PySem.W.kitOne
  rw [if_pos (beq_self_eq_true _)]
theorem kit_own {C : Addr} {t : Value} {b : Bool} (h1 : PySem.W.hasDictIn K C = true) (h2 : PySem.W.typeIn K (.ref C) = some (.type "type")) (h3 : PySem.W.subIn K t (.ref C) = some b) (hn : t ≠ .ref C) : PySem.W.kitOne K t (.ref C) = some b := by
  unfold PySem.W.kitOne
  rw [if_neg (fun z => hn (beq_iff_eq.mp z))]
  have hc : (PySem.W.clsIn K C).isSome = true := by
    obtain ⟨cd, hc, _⟩ := PySem.W.any_some h1
    rw [hc]; rfl
  show (if ((PySem.W.clsIn K C).isSome && PySem.W.typeIn K (.ref C) == some (.type "type")) = true then PySem.W.subIn K t (.ref C) else none) = some b
  rw [if_pos (by rw [hc, h2]; rfl)]
  exact h3
theorem kit_bt {C : Addr} {T : String} {b : Bool} (h1 : PySem.W.kitMeta T = true) (h3 : PySem.W.subIn K (.ref C) (.type T) = some b) : PySem.W.kitOne K (.ref C) (.type T) = some b := by
  unfold PySem.W.kitOne
  rw [if_neg (fun z => by have := beq_iff_eq.mp z; cases this)]
  show (if PySem.W.kitMeta T = true then PySem.W.subIn K (.ref C) (.type T) else none) = some b
  rw [if_pos h1]
  exact h3
theorem ref_ne {C E : Addr} (h : C ≠ E) : (Value.ref C : Value) ≠ .ref E := fun z => h (Value.ref.inj z)
theorem ty_ne {C : Addr} {T : String} : (Value.type T : Value) ≠ .ref C := fun z => nomatch z
theorem binds_full {fd : FuncData} {ps : List Str} {dvs : List V} {j : Nat} (h : ∃ ds, Vals (dvs.drop j) ds ∧ L2.Binds K fd ps ds) (e : dvs.drop j = []) : L2.Binds K fd ps [] := by
  obtain ⟨ds, h1, h2⟩ := h
  rw [e] at h1
  cases h1
  exact h2
/-! ### the bag is made -/
def bag0 (x m : Int) : Pen := ⟨[], 0, 0, x, m, 0, [], 0⟩
def spBag (K : PySem.W.Frag) : Sp := fun vs H Q _ => ∃ (a : Addr) (ns : List Int) (k : Int), vs = [.ref a, .int k] ∧ SqL K H a (ns.map V.int) ∧ ns.length ≤ 63 ∧ 0 ≤ k ∧ k < 1000 ∧
  ∀ (x m : Int) (H' : Hp) (p : Addr), Same H H' → H p = none → H' p = some (.lst [.int x, .int m, .int 0]) → Q (.ref p) H'
end
end Tw

set_option Elab.async false
set_option linter.all false
set_option maxRecDepth 100000
set_option maxHeartbeats 4000000
set_option autoImplicit false
namespace Tw
open PySem L2
theorem Sm.add2 {i j : Int} {n m : Nat} (hi : Sm n i) (hj : Sm m j) : Sm (n + m + 1) (i + j) := by
  unfold Sm at *
  have h1 : 2 ^ n ≤ 2 ^ (n + m) := Nat.pow_le_pow_right (by decide) (by omega)
  have h2 : 2 ^ m ≤ 2 ^ (n + m) := Nat.pow_le_pow_right (by decide) (by omega)
  rw [Nat.pow_succ]
  omega
theorem Sm.neg {i : Int} {n : Nat} (hi : Sm n i) : Sm n (-i) := by
  unfold Sm at *
  rw [Int.natAbs_neg]; exact hi
theorem Sm.sub2 {i j : Int} {n m : Nat} (hi : Sm n i) (hj : Sm m j) : Sm (n + m + 1) (i - j) := by
  rw [Int.sub_eq_add_neg]; exact hi.add2 hj.neg
theorem Sm.lit {i : Int} {n : Nat} (h : Sm n i := by decide) : Sm n i := h
theorem Sm.lit200 {i : Int} (h : decide (i.natAbs < 2 ^ 200) = true) : Sm 200 i := of_decide_eq_true h
theorem mulOk_any {i j : Int} {n m : Nat} (hi : Sm n i) (hj : Sm m j) (h : n + m < 1000000) : mulOk i j = true := by
  unfold Sm at *
  have l : ∀ {x : Int} {k : Nat}, x.natAbs < 2 ^ k → x.natAbs.log2 ≤ k := by
    intro x k hx
    by_cases h0 : x.natAbs = 0
    · rw [h0, Nat.log2_zero]; exact Nat.zero_le _
    · exact Nat.le_of_lt ((Nat.log2_lt h0).mpr hx)
  have a := l hi
  have b := l hj
  unfold mulOk
  rw [decide_eq_true (show i.natAbs.log2 + j.natAbs.log2 < 1000000 by omega)]
  simp
theorem mkD_of {c : Nat} {m : List D → M D} {ds : List D} {s : Pen} {fs : List (Str × D)} (hc : (clearL ds && c != gro) = true) (e : m (.self :: ds) { s with obj := [], ocls := c } = .ok .non { s with obj := fs, ocls := c }) : mkD c m ds s = .ok (.ins c (fs.map (·.1)) (fs.map (·.2))) s := by
  unfold mkD
  rw [hc, e]
  rfl
theorem mkD_exc {c c' : Nat} {m : List D → M D} {ds : List D} {s s1 : Pen} {ns : List Str} {xs : List D} (hc : (clearL ds && c != gro) = true) (hx : clearL xs = true) (e : m (.self :: ds) { s with obj := [], ocls := c } = .exc c' ns xs s1) (h1 : { s1 with obj := s.obj, ocls := s.ocls } = s) : mkD c m ds s = .exc c' ns xs s := by
  unfold mkD
  rw [hc, e]
  show (if clearL xs = true then Out.exc c' ns xs { s1 with obj := s.obj, ocls := s.ocls } else .bad) = _
  rw [hx, h1]
  rfl
theorem eqA_int (i j : Int) : eqA (.int i) (.int j) = mret (.bl (decide (i = j))) := rfl
theorem eqA_bl (i j : Bool) : eqA (.bl i) (.bl j) = mret (.bl (decide (i = j))) := rfl
theorem neA_int (i j : Int) : neA (.int i) (.int j) = mret (.bl (!decide (i = j))) := rfl
theorem neA_bl (i j : Bool) : neA (.bl i) (.bl j) = mret (.bl (!decide (i = j))) := rfl
theorem isI_ins (n : Nat) (m : Str) (ns : List Str) (xs : List D) (h : ns.contains m = false) : isI n m (.ins n ns xs) = mret () := by
  unfold isI
  simp only [beq_self_eq_true, Bool.true_and, h, Bool.not_false, if_true]
theorem sseq_nx' {m m' : MS} {ρ ρ' : Loc} {s s' : Pen} {o : OutS} (h : m ρ s = .nx ρ' s') (h2 : m' ρ' s' = o) : sseq m m' ρ s = o := by rw [sseq_nx h]; exact h2
theorem nox_ret {α : Type} (a : α) : nox (mret a) = mret a := rfl
theorem nox_ok {α : Type} {m : M α} {a : α} {s s' : Pen} (h : m s = .ok a s') : nox m s = .ok a s' := by
  unfold nox; rw [h]
theorem p6 : powI (.int 10) (.int 6) = mret (.int 1000000) := rfl
section
variable {ans : String ⊕ Nat → String ⊕ Nat → Option Bool}
theorem isiA_int (i : Int) (T : String) : isiA ans [.int i, .ty T] = isiB [.int i, .ty T] := rfl
theorem isiA_bl (i : Bool) (T : String) : isiA ans [.bl i, .ty T] = isiB [.bl i, .ty T] := rfl
theorem isiA_non (T : String) : isiA ans [.non, .ty T] = isiB [.non, .ty T] := rfl
theorem isiA_str (x : Str) (T : String) : isiA ans [.str x, .ty T] = isiB [.str x, .ty T] := rfl
theorem isiA_tup (xs : List D) (T : String) : isiA ans [.tup xs, .ty T] = isiB [.tup xs, .ty T] := rfl
theorem isiA_lst (xs : List D) (T : String) : isiA ans [.lst xs, .ty T] = isiB [.lst xs, .ty T] := rfl
theorem isiA_ins (n : Nat) (ns : List Str) (xs : List D) (T : String) {b : Bool} (h : ans (.inr n) (.inl T) = some b) : isiA ans [.ins n ns xs, .ty T] = mret (.bl b) := by
  show (match ans (.inr n) (.inl T) with | some b => mret (D.bl b) | none => mbad) = _
  rw [h]
theorem isiA_cls {x : D} {t : String ⊕ Nat} (n : Nat) {b : Bool} (ht : tyTag x = some t) (h : ans t (.inr n) = some b) : isiA ans [x, .cls n] = mret (.bl b) := by
  have e : isiA ans [x, .cls n] = isiO ans [x, .cls n] := by cases x <;> rfl
  rw [e]
  show (match tyTag x with | some t => (match ans t (.inr n) with | some b => mret (D.bl b) | none => mbad) | none => mbad) = _
  rw [ht]
  dsimp only
  rw [h]
end
end Tw

set_option Elab.async false
set_option linter.all false
set_option maxRecDepth 100000
set_option maxHeartbeats 4000000
set_option autoImplicit false
namespace Tw
open PySem L2
theorem toPL_ints : ∀ ns : List Int, toPL (ns.map D.int) = some (ns.map PyData.int)
  | [] => rfl
  | n :: ns => by
    rw [List.map_cons, List.map_cons]
    unfold toPL
    rw [toPL_ints ns]
    rfl
theorem lay_ints : ∀ ns : List Int, PyData.canLayAll0 (ns.map PyData.int) = true
  | [] => by simp [PyData.canLayAll0]
  | n :: ns => by simp [PyData.canLayAll0, PyData.canLay0, lay_ints ns]
theorem depth_ints : ∀ ns : List Int, PyData.depthAll (ns.map PyData.int) ≤ 1
  | [] => by simp [PyData.depthAll]
  | n :: ns => by
    have := depth_ints ns
    simp only [List.map_cons, PyData.depthAll, PyData.depth]
    omega
theorem shaped_tup (ns : List Int) : SeqAt.shaped (.tuple (ns.map PyData.int)) = true := by
  have h := depth_ints ns
  unfold SeqAt.shaped
  rw [Bool.and_eq_true]
  refine ⟨by simp only [PyData.canLay0]; exact lay_ints ns, decide_eq_true ?_⟩
  simp only [PyData.depth]
  omega
theorem shaped_lst (ns : List Int) : SeqAt.shaped (.list (ns.map PyData.int)) = true := by
  have h := depth_ints ns
  unfold SeqAt.shaped
  rw [Bool.and_eq_true]
  refine ⟨by simp only [PyData.canLay0]; exact lay_ints ns, decide_eq_true ?_⟩
  simp only [PyData.depth]
  omega
theorem eqv_ints : ∀ ns ms : List Int, PyData.eqvAll (ns.map PyData.int) (ms.map PyData.int) = decide (ns = ms)
  | [], [] => by simp [PyData.eqvAll]
  | [], m :: ms => by simp [PyData.eqvAll]
  | n :: ns, [] => by simp [PyData.eqvAll]
  | n :: ns, m :: ms => by
    simp only [List.map_cons, PyData.eqvAll, PyData.eqv, eqv_ints ns ms]
    by_cases h : n = m
    · by_cases h2 : ns = ms <;> simp [h, h2]
    · simp [h]
theorem eqT (ns ms : List Int) : eqA (.tup (ns.map D.int)) (.tup (ms.map D.int)) = mret (.bl (decide (ns = ms))) := by
  show eqDat _ _ = _
  have a : toP (.tup (ns.map D.int)) = some (.tuple (ns.map PyData.int)) := by unfold toP; rw [toPL_ints]; rfl
  have b : toP (.tup (ms.map D.int)) = some (.tuple (ms.map PyData.int)) := by unfold toP; rw [toPL_ints]; rfl
  unfold eqDat
  rw [a, b]
  dsimp only
  rw [shaped_tup, shaped_tup, if_pos (show (true && true) = true from rfl)]
  simp only [PyData.eqv, eqv_ints]
theorem eqL (ns ms : List Int) : eqA (.lst (ns.map D.int)) (.lst (ms.map D.int)) = mret (.bl (decide (ns = ms))) := by
  show eqDat _ _ = _
  have a : toP (.lst (ns.map D.int)) = some (.list (ns.map PyData.int)) := by unfold toP; rw [toPL_ints]; rfl
  have b : toP (.lst (ms.map D.int)) = some (.list (ms.map PyData.int)) := by unfold toP; rw [toPL_ints]; rfl
  unfold eqDat
  rw [a, b]
  dsimp only
  rw [shaped_lst, shaped_lst, if_pos (show (true && true) = true from rfl)]
  simp only [PyData.eqv, eqv_ints]
theorem neT (ns ms : List Int) : neA (.tup (ns.map D.int)) (.tup (ms.map D.int)) = mret (.bl (!decide (ns = ms))) := by
  show neDat _ _ = _
  have a : toP (.tup (ns.map D.int)) = some (.tuple (ns.map PyData.int)) := by unfold toP; rw [toPL_ints]; rfl
  have b : toP (.tup (ms.map D.int)) = some (.tuple (ms.map PyData.int)) := by unfold toP; rw [toPL_ints]; rfl
  unfold neDat
  rw [a, b]
  dsimp only
  rw [shaped_tup, shaped_tup, if_pos (show (true && true) = true from rfl)]
  simp only [PyData.eqv, eqv_ints]
theorem neL (ns ms : List Int) : neA (.lst (ns.map D.int)) (.lst (ms.map D.int)) = mret (.bl (!decide (ns = ms))) := by
  show neDat _ _ = _
  have a : toP (.lst (ns.map D.int)) = some (.list (ns.map PyData.int)) := by unfold toP; rw [toPL_ints]; rfl
  have b : toP (.lst (ms.map D.int)) = some (.list (ms.map PyData.int)) := by unfold toP; rw [toPL_ints]; rfl
  unfold neDat
  rw [a, b]
  dsimp only
  rw [shaped_lst, shaped_lst, if_pos (show (true && true) = true from rfl)]
  simp only [PyData.eqv, eqv_ints]
theorem eqT3 (a b c x y z : Int) : eqA (.tup [.int a, .int b, .int c]) (.tup [.int x, .int y, .int z]) = mret (.bl (decide (a = x ∧ b = y ∧ c = z))) := by
  have h := eqT [a, b, c] [x, y, z]
  simpa using h
theorem neT2 (a b x y : Int) : neA (.tup [.int a, .int b]) (.tup [.int x, .int y]) = mret (.bl (!decide (a = x ∧ b = y))) := by
  have h := neT [a, b] [x, y]
  simpa using h
theorem at0 (x : D) (xs : List D) : atI (x :: xs) 0 = some x := atI_nat (j := 0) (show (x :: xs)[0]? = some x by simp)
theorem at1 (x y : D) (xs : List D) : atI (x :: y :: xs) 1 = some y := atI_nat (j := 1) (show (x :: y :: xs)[1]? = some y by simp)
theorem at2 (x y z : D) (xs : List D) : atI (x :: y :: z :: xs) 2 = some z := atI_nat (j := 2) (show (x :: y :: z :: xs)[2]? = some z by simp)
end Tw

set_option Elab.async false
set_option linter.all false
set_option maxRecDepth 100000
set_option maxHeartbeats 4000000
set_option autoImplicit false
namespace Tw
open PySem L2 PySem.Spec PyProof.Rows
section
variable {K : PySem.W.Frag} {G : Gt} {W : WX} {X : Cx}
variable {a b c e : Expr} {es : List Expr} {ta te to tv ti : TE} {fa fe fo fv fi : Loc → M D} {pos : Pos} {tA : TA} {fA : Loc → M (List D)}
/-! ### lists that grow -/
def cleanS (o : Option D) : Option D := match o with
  | some d => if clear d = true then some d else none
  | none => none
theorem EnvOk.cleanS {p q : Fm} {H : Hp} {σ : L2.St} {ρ : Loc} (hp : q.pen = p.pen) (ho : ∀ a o, H a = some o → ¬ p.out a → ¬ q.out a) (e : EnvOk G p H σ ρ) : EnvOk G q H σ (ρ.map Tw.cleanS) := by
  refine ⟨by rw [List.length_map]; exact e.1, fun i d h => ?_⟩
  rw [List.getElem?_map] at h
  cases q1 : ρ[i]? with
  | none => rw [q1] at h; cases h
  | some o =>
    rw [q1] at h
    cases o with
    | none => cases h
    | some d0 =>
      have h' : (if clear d0 = true then some d0 else none) = some d := Option.some.inj h
      by_cases hc : clear d0 = true
      · rw [if_pos hc] at h'
        cases h'
        obtain ⟨v, h1, h2⟩ := e.2 i d q1
        exact ⟨v, h1, rep_move rfl hp ho d v hc h2⟩
      · rw [if_neg hc] at h'; cases h'
/-- a reading that makes a new list -/
def RunF (G : Gt) (W : WX) (te : TE) (f : Loc → M (List D)) : Prop :=
  ∀ (p : Fm) (σ : L2.St) (H : Hp) (ρ : Loc) (s : Pen) (Q : VK), EnvOk G p H σ ρ → PenOk G p H s →
    (match f ρ s with
      | .ok ds s' => ∀ H2 vs a, H a = none → Keep p H H2 → PenOk G (p.add a) H2 s' → RepL G (p.add a) H2 ds vs → H2 a = some (.lst vs) → Q (.ref a) H2
      | .exc c ns xs s' => ∀ dd H', Keep p H H' → PenOk G p H' s' → ExcOk G p H' ns xs dd → W (.ref (G.cls c)) dd σ H'
      | .bad => False) → te σ H Q
def few (ds : List D) : M (List D) := if decide (ds.length ≤ 100000) = true then mret ds else mbad
theorem keep_free {p : Fm} {H H1 : Hp} {a : Addr} (h : H1 a = none) (k : Keep p H H1) (pk : ∀ b, p.out b → ∃ o, H1 b = some o) : H a = none := by
  cases q : H a with
  | none => rfl
  | some o =>
    by_cases hm : p.mut a
    · obtain ⟨o', e⟩ := pk a (Classical.byContradiction fun z => (Fm.no z) hm)
      rw [h] at e; cases e
    · have := k a o hm q
      rw [h] at this; cases this
theorem fresh_go {p : Fm} {H H1 : Hp} {s1 : Pen} {ds : List D} {vs : List V} {Q : VK} (k1 : Keep p H H1) (pk1 : PenOk G p H1 s1) (rs : RepL G p H1 ds vs)
    (fin : ∀ H2 vs a, H a = none → Keep p H H2 → PenOk G (p.add a) H2 s1 → RepL G (p.add a) H2 ds vs → H2 a = some (.lst vs) → Q (.ref a) H2) (a : Addr) (ha : H1 a = none) : Q (.ref a) (upd H1 a (.lst vs)) := by
  have h0 : H a = none := keep_free ha k1 pk1.2.2
  have k2 : Keep p H1 (upd H1 a (.lst vs)) := Keep.new ha
  refine fin _ vs a h0 (k1.trans k2) (pk1.add ha) ?_ upd_same
  exact repL_keep trivial (Keep.new ha) _ _ (repL_out (p := p) (q := p.add a) rfl rfl (fun b o e h z => z.elim h fun z => ne_of_none e ha z) _ _ rs)
theorem runf_lst (ha : RunG G W (RelA G) tA fA) : RunF G W (tLst tA) (fun ρ => mbind (fA ρ) few) := by
  intro p σ H ρ s Q e pk fin
  refine ha p σ H ρ s _ e pk ?_
  have fin' : (match obind (fA ρ s) few with
      | .ok ds s' => ∀ H2 vs a, H a = none → Keep p H H2 → PenOk G (p.add a) H2 s' → RepL G (p.add a) H2 ds vs → H2 a = some (.lst vs) → Q (.ref a) H2
      | .exc c ns xs s' => ∀ dd H', Keep p H H' → PenOk G p H' s' → ExcOk G p H' ns xs dd → W (.ref (G.cls c)) dd σ H'
      | .bad => False) := fin
  cases q : fA ρ s with
  | bad => rw [q] at fin'; exact fin'
  | exc c ns xs s1 => rw [q] at fin'; exact fin'
  | ok ds s1 =>
    rw [q] at fin'
    intro vs H1 k1 pk1 rs
    by_cases hl : ds.length ≤ 100000
    · have hf : obind (Out.ok ds s1) few = .ok ds s1 := by show few ds s1 = _; unfold few; rw [if_pos (decide_eq_true hl)]; rfl
      rw [hf] at fin'
      exact ⟨by rw [← repL_len rs]; exact Nat.le_trans hl (by decide), fun a ha => fresh_go k1 pk1 rs fin' a ha⟩
    · have hf : obind (Out.ok ds s1) few = .bad := by show few ds s1 = _; unfold few; rw [if_neg (by simp [hl])]; rfl
      rw [hf] at fin'; exact False.elim fin'
def sGrow (n : Nat) (f : Loc → M (List D)) (mb : MS) : MS := fun ρ s => sof (f ρ s) ρ fun ds s1 => if (clearL ds && decide (n < ρ.length)) = true then
    (match mb ((ρ.map cleanS).set n (some .self)) { s1 with obj := ds.map (fun d => ("", d)), ocls := gro } with
    | .nx ρ2 s2 => (match ρ2[n]? with
      | some (some .self) => .nx ((ρ2.map cleanS).set n (some (.lst (s2.obj.map (·.2))))) { s2 with obj := s1.obj, ocls := s1.ocls }
      | _ => .bad)
    | .ret d s2 => if clear d = true then .ret d { s2 with obj := s1.obj, ocls := s1.ocls } else .bad
    | .exc c ns xs ρ2 s2 => if clearL xs = true then .exc c ns xs ((ρ2.map cleanS).set n none) { s2 with obj := s1.obj, ocls := s1.ocls } else .bad
    | _ => .bad) else .bad
theorem EnvOk.unset' {p : Fm} {H : Hp} {σ : L2.St} {ρ : Loc} {i : Nat} (e : EnvOk G p H σ ρ) : EnvOk G p H σ (ρ.set i none) := by
  refine ⟨by rw [List.length_set]; exact e.1, fun j d h => ?_⟩
  rw [List.getElem?_set] at h
  by_cases hij : i = j
  · subst hij
    simp only [if_true] at h
    split at h <;> cases h
  · rw [if_neg hij] at h
    exact e.2 j d h
theorem EnvOk.setAt {p : Fm} {H : Hp} {σ : L2.St} {ρ : Loc} {i : Nat} {d : D} {v : V} (e : EnvOk G p H σ ρ) (hv : σ[i]? = some (some v)) (r : Rep G p H d v) : EnvOk G p H σ (ρ.set i (some d)) := by
  refine ⟨by rw [List.length_set]; exact e.1, fun j d' h => ?_⟩
  rw [List.getElem?_set] at h
  by_cases hij : i = j
  · subst hij
    simp only [if_true] at h
    split at h
    · cases h; exact ⟨v, hv, r⟩
    · cases h
  · rw [if_neg hij] at h
    exact e.2 j d' h
theorem run_grow {n : Nat} {te : TE} {f : Loc → M (List D)} {tb : TS} {mb : MS} (hi : RunF G W te f) (hb : RunS G W tb mb) : RunS G W (tSeq (tAsg te (gName n)) tb) (sGrow n f mb) := by
  intro p σ H ρ s Z e pk fin
  refine hi p σ H ρ s _ e pk ?_
  unfold sGrow at fin
  cases qf : f ρ s with
  | bad => rw [qf] at fin; exact fin
  | exc c ns xs s1 => rw [qf] at fin; exact fun dd H' k pk' x => fin dd σ H' k pk' (e.keep pk.at k) x
  | ok ds s1 =>
    rw [qf] at fin
    replace fin : FinS G W p H Z (if (clearL ds && decide (n < ρ.length)) = true then _ else OutS.bad) := fin
    intro H2 vs a ha k2 pk2 rs hH
    by_cases hcn : ¬ (clearL ds && decide (n < ρ.length)) = true
    · rw [if_neg hcn] at fin; exact False.elim fin
    have hc0 := Decidable.not_not.mp hcn
    rw [if_pos hc0] at fin
    rw [Bool.and_eq_true] at hc0
    have hc := hc0.1
    have hn : n < ρ.length := of_decide_eq_true hc0.2
    have hne : ∀ b kd, p.pen = some (b, kd) → a ≠ b := fun b kd eb z => by
      obtain ⟨o, eo⟩ := pk.2.2 b (p.okp b kd eb)
      rw [← z, ha] at eo; cases eo
    have hnp : ¬ p.out a := pk.free ha
    have w1 : ∀ b o, H2 b = some o → ¬ (p.add a).out b → ¬ (p.mk' a gro a hne).out b := fun b o _ h => h
    have hN : upd H2 a (.lst vs) = H2 := by
      funext b
      by_cases z : b = a
      · subst z; rw [upd_same, hH]
      · rw [upd_ne z]
    have e2 : EnvOk G (p.add a) H2 σ ρ := (e.out (wider_add ha)).keep trivial (fun b o h1 h2 => k2 b o (fun z => h1 (by rcases z with ⟨kd, z⟩ | ⟨c, d, z⟩; exact .inl ⟨kd, z⟩; exact .inr ⟨c, d, z⟩)) h2)
    have e3 : EnvOk G (p.mk' a gro a hne) H2 (σ.set n (some (.ref a))) ((ρ.map cleanS).set n (some .self)) := (e2.cleanS (p := p.add a) (q := p.mk' a gro a hne) rfl w1).set ⟨a, gro, a, rfl, rfl⟩
    have pk3 : PenOk G (p.mk' a gro a hne) H2 { s1 with obj := ds.map (fun d => ("", d)), ocls := gro } := by
      refine ⟨fun b kd eb => ?_, fun y c' d' ey => ?_, fun b hb => pk2.2.2 b hb⟩
      · rcases pk2.1 b kd eb with ⟨e1, e2⟩ | ⟨c0, e1, z0, z1, z2⟩
        · exact .inl ⟨e1, e2⟩
        · exact .inr ⟨c0, e1, z0, z1, z2⟩
      · cases ey
        have hm2 : (ds.map (fun d => (("" : Str), d))).map (·.2) = ds := by rw [List.map_map]; exact List.map_id' ds
        refine ⟨vs, by rw [show objO G gro a _ vs = .lst vs from if_pos rfl]; exact hH, ⟨by rw [List.length_map]; exact repL_len rs, ?_, rfl⟩, ?_⟩
        · show clearL ((ds.map (fun d => (("" : Str), d))).map (·.2)) = true
          rw [hm2]; exact hc
        · show RepL G.bare _ H2 ((ds.map (fun d => (("" : Str), d))).map (·.2)) vs
          rw [hm2]
          exact repL_move (G := G) (G' := G.bare) (p := p.add a) (q := p.mk' a gro a hne) rfl rfl w1 _ _ hc rs
    have back : ∀ (H' : Hp) (s2 : Pen), Keep (p.mk' a gro a hne) H2 H' → PenOk G (p.mk' a gro a hne) H' s2 → Keep p H H' ∧ PenOk G p H' { s2 with obj := s1.obj, ocls := s1.ocls } := by
      intro H' s2 k' pk'
      have hk : ∀ b o, b ≠ a → (∀ kd, p.pen ≠ some (b, kd)) → H2 b = some o → H' b = some o := fun b o hb n e => k' b o (fun z => z.elim (fun ⟨kd, z⟩ => n kd z) fun ⟨c', d', z⟩ => hb (by cases z; rfl)) e
      have hbn : ∀ b o, H b = some o → b ≠ a := fun b o e z => by rw [z, ha] at e; cases e
      refine ⟨fun b o n e => hk b o (hbn b o e) (fun kd z => n (.inl ⟨kd, z⟩)) (k2 b o n e), fun b kd eb => ?_, fun y c' d' ey => ?_, fun b hb => pk'.2.2 b (.inl hb)⟩
      · rcases pk'.1 b kd eb with ⟨e1, e2⟩ | ⟨c0, e1, z0, z1, z2⟩
        · exact .inl ⟨e1, e2⟩
        · exact .inr ⟨c0, e1, fun z => z0 (.inl z), z1, z2⟩
      · obtain ⟨us, h1, hl, h2⟩ := pk2.2.1 y c' d' ey
        have hya : y ≠ a := fun z => hnp (by rw [← z]; exact p.oko y c' d' ey)
        refine ⟨us, hk y _ hya (fun kd z => p.neo y kd y c' d' z ey rfl) h1, hl, ?_⟩
        have h3 : RepL G.bare (p.mk' a gro a hne) H2 (s1.obj.map (·.2)) us := repL_move (G := G.bare) (G' := G.bare) (p := p.add a) (q := p.mk' a gro a hne) rfl rfl w1 _ _ hl.2.1 h2
        have h4 := repL_keep trivial k' _ _ h3
        exact repL_move (G := G.bare) (G' := G.bare) (p := p.mk' a gro a hne) (q := p) rfl rfl (fun b o _ h z => h (.inl z)) _ _ hl.2.1 h4
    refine hb (p.mk' a gro a hne) _ H2 _ _ Z e3 pk3 ?_
    cases qm : mb ((ρ.map cleanS).set n (some .self)) { s1 with obj := ds.map (fun d => ("", d)), ocls := gro } with
    | bad => rw [qm] at fin; exact False.elim fin
    | bk ρ2 s2 => rw [qm] at fin; exact False.elim fin
    | ct ρ2 s2 => rw [qm] at fin; exact False.elim fin
    | ret d s2 =>
      rw [qm] at fin
      dsimp only at fin
      by_cases hd : clear d = true
      · rw [if_pos hd] at fin
        intro v H' k' pk' rd
        obtain ⟨kp, pkp⟩ := back H' s2 k' pk'
        exact fin v H' kp pkp (rep_move (p := p.mk' a gro a hne) (q := p) rfl rfl (fun b o _ h z => h (.inl z)) d v hd rd)
      · rw [if_neg hd] at fin; exact False.elim fin
    | exc c ns xs ρ2 s2 =>
      rw [qm] at fin
      dsimp only at fin
      by_cases hd : clearL xs = true
      · rw [if_pos hd] at fin
        intro dd σ' H' k' pk' e' x'
        obtain ⟨kp, pkp⟩ := back H' s2 k' pk'
        refine fin dd σ' H' kp pkp (e'.cleanS (p := p.mk' a gro a hne) (q := p) rfl (fun b o _ h z => h (.inl z))).unset' ?_
        obtain ⟨us, ru, xd⟩ := x'
        refine ⟨us, repL_move (G := G) (G' := G) (p := p.mk' a gro a hne) (q := p) rfl rfl (fun b o _ z y => z (.inl y)) _ _ hd ru, ?_⟩
        rcases xd with xd | ⟨b, gs, e0, e1, e2, e3, e4⟩
        · exact .inl xd
        · exact .inr ⟨b, gs, e0, e1, fun z => e2 (.inl z), e3, e4⟩
      · rw [if_neg hd] at fin; exact False.elim fin
    | nx ρ2 s2 =>
      rw [qm] at fin
      dsimp only at fin
      split at fin
      · rename_i hself
        intro σ' H' k' pk' e'
        obtain ⟨kp, pkp⟩ := back H' s2 k' pk'
        obtain ⟨v, hv, ⟨a', c', d', ea, rfl⟩⟩ := e'.2 n .self hself
        cases ea
        obtain ⟨us, h1, hl, h2⟩ := pk'.2.1 a gro a rfl
        rw [show objO G gro a (s2.obj.map (·.1)) us = .lst us from if_pos rfl] at h1
        refine fin σ' H' kp pkp ((e'.cleanS (p := p.mk' a gro a hne) (q := p) rfl (fun b o _ h z => h (.inl z))).setAt hv ?_)
        exact ⟨a, us, rfl, hnp, h1, repL_move (G := G.bare) (G' := G) (p := p.mk' a gro a hne) (q := p) rfl rfl (fun b o _ h z => h (.inl z)) _ _ hl.2.1 h2⟩
      · exact False.elim fin
end
end Tw

set_option Elab.async false
set_option linter.all false
set_option maxRecDepth 100000
set_option maxHeartbeats 4000000
set_option autoImplicit false
namespace Tw
open PySem L2 PySem.Spec PyProof.Rows
/-! ### != by an own == -/
section
open PySem.W
variable {prog : Program} {w : World} {A : Around} {E : Value → Shared → Prop} {s : Shared} {K : Frag} {x C f : Addr} {ox : Obj} {od : Option Obj} {b tb : Value}
theorem bound_blt {M : Model} {name : Str} {id : String} {args : List Value} {Q : Option Value → Shared → Prop} (X : K.In s.heap) (I : InstAt s.heap x ox C od) (hs : findIn K (.ref C) name = some (some (.builtin id))) (hb : bindSpecial (.builtin id) (.ref x) = pure (.builtin id, [.ref x]))
    (h : wpAny M A (call (.builtin id) (.ref x :: args)) (fun v => Q (some v)) E s) : wpAny M A (callSpecialIfBound? (.ref x) name args) Q E s := by
  have go : wpAny M A (call (.builtin id) ([.ref x] ++ args) >>= fun v => (pure (some v) : Sem (Option Value))) Q E s := wpAny_bind (wpAny_mono h (fun _ _ z => wpAny_pure z) fun _ _ z => z)
  simp only [callSpecialIfBound?, bindSpecialIfBound?, hb]
  apply wpAny_holding
  apply wpAny_bind
  apply wpAny_bind
  refine wpAny_bind (I.type.here ((looks_findIn X hs).here ?_))
  refine wpAny_bind (wpAny_askSetting (wpAny_ite ?_))
  split
  · exact wpAny_bind (by rw [hb]; exact wpAny_pure (wpAny_pure go))
  · exact wpAny_tryCatch (wpAny_bind (by rw [hb]; exact wpAny_pure (wpAny_pure go)))
theorem ne_entry (X : K.In s.heap) (I : InstAt s.heap x ox C od) (he : findIn K (.ref C) "__eq__" = some (some (.ref f))) (hf : isFn K (.ref f) = true) (hu : A.units < cLine) {Q : Fin → Shared → Prop}
    (hcall : wpAny (model prog w) A (call (.ref f) [.ref x, b]) (fun v s' => ∃ r, v = .bool r ∧ Q (.done (.ret (.bool (!r)))) s') E s) :
    wpAny (model prog w) A (Builtin.«object.__ne__» ⟨[.ref x, b], []⟩) Q E s := by
  unfold Builtin.«object.__ne__»
  repeat (first
    | with_reducible refine wpAny_cRoomFor hu ?_
    | (refine wpAny_bind (m := callSpecialIfBound? (.ref x) (Str.ofString "__eq__") [b])
        (ifBound_K X I he hf (wpAny_mono hcall (fun r s' hr => by
          obtain ⟨r, rfl, hq⟩ := hr
          repeat (first | exact hq | exact wpAny_pure hq | exact wpAny_truthy_bool hq | (refine wpAny_bind (m := truthy (.bool _)) (wpAny_truthy_bool ?_)) | wp_step)) fun _ _ e => e)))
    | wp_step)
theorem rc_ne (X : K.In s.heap) (I : InstAt s.heap x ox C od) (hb : Looks (model prog w) s.heap (typeOf b) tb) (hn : notFirst K C tb = true) (he : findIn K (.ref C) "__eq__" = some (some (.ref f))) (hf : isFn K (.ref f) = true)
    (hne : findIn K (.ref C) "__ne__" = some (some (.builtin "object.__ne__"))) (hso : subIn K (.ref C) (.type "object") = some true) (hu : A.units + 1 < cLine) {Q : Value → Shared → Prop}
    (hcall : wpAny (model prog w) A.in1 (call (.ref f) [.ref x, b]) (fun v s' => ∃ r, v = .bool r ∧ Q (.bool (!r)) s') E s) : wpAny (model prog w) A (richCompare .NotEq (.ref x) b) Q E s := by
  have L0 := I.type (M := model prog w)
  have sub : Looks (model prog w) s.heap (isInstance (.ref x) (.type "object")) true := L0.andThen (looks_subIn X hso)
  have one : wpAny (model prog w) A (tryCompare (.ref x) "__ne__" b) (fun r s' => ∃ v, r = some v ∧ Q v s') E s := by
    simp only [tryCompare]
    refine wpAny_bind (bound_blt X I hne (F.cmp_object.ne.bind _) (wpAny_call (codeAny_call_builtin F.cmp_object.ne.plain F.cmpEntry_ne ?_)))
    refine PySem.W.check_slot (i := "object.__ne__") (owner := "object") (n := "__ne__") F.cmpKind_ne F.cmpSplit_ne sub (F.cmpArgs_ne _ _) ?_
    refine ne_entry (A := A.in1) X I he hf hu (wpAny_mono hcall (fun v s' hv => ?_) fun _ _ e => e)
    obtain ⟨r, rfl, hq⟩ := hv
    first | exact ⟨r, rfl, wpAny_pure ⟨_, rfl, hq⟩⟩ | exact ⟨r, rfl, _, rfl, hq⟩
  have fin : ∀ (r : Option Value) (s' : Shared), (∃ v, r = some v ∧ Q v s') → ∃ v, r = some v ∧ Q v s' := fun _ _ z => z
  unfold richCompare
  simp only [oneThing_ref]
  apply wpAny_holding
  refine wpAny_bind (wpAny_cRoomFor (Nat.lt_of_succ_lt hu) ?_)
  rw [cmpInfo_NotEq]
  dsimp only
  refine wpAny_bind (L0.here (wpAny_bind (hb.here ?_)))
  have last : ∀ m : Sem Value, wpAny (model prog w) A (tryCompare (.ref x) "__ne__" b >>= fun r => match r with | some v => pure v | none => m) Q E s := fun m => by
    refine wpAny_bind (wpAny_mono one (fun r s' z => ?_) fun _ _ e => e)
    obtain ⟨v, rfl, hq⟩ := z
    exact wpAny_pure hq
  split
  · rename_i q
    have e2 : subIn K tb (.ref C) = some false := by
      unfold notFirst at hn
      rw [Bool.or_eq_true] at hn
      cases hn with
      | inl e => rw [beq_iff_eq.mp e] at q; simp at q
      | inr e => exact beq_iff_eq.mp e
    refine wpAny_bind ((looks_subIn X e2).here ?_)
    simp only [Bool.false_eq_true, if_false]
    refine wpAny_bind (wpAny_mono one (fun r s' z => ?_) fun _ _ e => e)
    obtain ⟨v, rfl, hq⟩ := z
    exact wpAny_pure hq
  · refine wpAny_bind (wpAny_pure ?_)
    simp only [Bool.false_eq_true, if_false]
    refine wpAny_bind (wpAny_mono one (fun r s' z => ?_) fun _ _ e => e)
    obtain ⟨v, rfl, hq⟩ := z
    exact wpAny_pure hq
end
section
variable {K : PySem.W.Frag} {G : Gt} {W : WX} {X : Cx}
/-- what of a class is wanted for its own != -/
structure One (K : PySem.W.Frag) (C : Addr) : Prop where
  ne : PySem.W.findIn K (.ref C) "__ne__" = some (some (.builtin "object.__ne__"))
  so : PySem.W.subIn K (.ref C) (.type "object") = some true
variable {C g : Addr} {fd : FuncData} {ps : List Str} {k n : Nat} {sp : Sp} {md : List D → M D}
theorem run_in1 {pins : List (Addr × Obj)} {σ : L2.St} {H : Hp} {s : Shared} {Q : VK} {us : List Value} {vs : List V} (F : FnOk X.prog X.w X.K X.mg X.base (L2.CX X.prog X.w) k g fd ps sp) (hr : Room (k + 1) X.A) (hb : L2.Binds X.K fd ps [])
    (I : Inv X pins σ H s) (r : Vals vs us) (h : sp vs H Q (fun _ _ _ => False)) : wpAny (model X.prog X.w) X.A.in1 (call (.ref g) us) (EP X pins σ Q) X.xe s := by
  have hl : (us ++ []).length = ps.length := by
    rw [List.append_nil, ← r.length]
    exact F.len _ _ _ _ h
  have hb' := hb s us I.kIn hl
  rw [List.append_nil] at hb'
  apply wpAny_call
  refine codeAny_mono (F.run X.A.in1 X.stack s H ⟨us, []⟩ us vs Q (fun _ _ _ => False) hr.in1 I.env0.in1 hb' r h) fun q s' hq => ?_
  cases q with
  | error e => exact passL pins σ H s e s' I hq
  | ok fl => cases fl <;> first | exact I.after hq | exact False.elim hq
def rOne (G : Gt) (K : PySem.W.Frag) (C : Addr) (sp : Sp) : R2 := fun x y H Q => ∃ a dx fs p d t, x = .ref a ∧ H a = some (.ins C dx fs) ∧ Rep G p H d y ∧ tyTag d = some t ∧ PySem.W.notFirst K C (tyV G t) = true ∧ sp [x, y] H (fun v H' => ∃ b, v = .bl b ∧ Q (.bl (!b)) H') (fun _ _ _ => False)
theorem op_one (hK : X.K = K) (M : Oeq X.K C g fd ps) (N : One X.K C) (F : FnOk X.prog X.w X.K X.mg X.base (L2.CX X.prog X.w) k g fd ps sp) (hr : Room (k + 1) X.A) (hu : X.A.units + 1 < cLine) : OpR X (compareOp .NotEq) (rOne G K C sp) := by
  subst hK
  intro pins s σ H x y v u Q I rx ry h
  obtain ⟨a, dx, fs, p, d, t, rfl, ha, rd, ht, hn, q⟩ := h
  obtain rfl : v = Value.ref a := rx
  obtain ⟨ox, od, J⟩ := inst_of I ha
  show wpAny _ _ (richCompare .NotEq (.ref a) u) _ _ _
  refine rc_ne I.kIn J (ty_looks I rd ry ht) hn M.at_ M.isf N.ne N.so hu (wpAny_mono (run_in1 F hr M.b I (.cons (show L2.RelV (.ref a) (Value.ref a) from rfl) (.cons ry .nil)) q) (fun r s' z => ?_) fun _ _ z => z)
  obtain ⟨w, H', I', rw', b, rfl, q'⟩ := z
  exact ⟨b, rw', .bl (!b), H', I', rfl, q'⟩
def notR (d : D) : M D := match d with
  | .bl b => mret (.bl (!b))
  | _ => mbad
def oneB (n : Nat) (ok : String ⊕ Nat → Bool) (md : List D → M D) : D → D → M D := fun x y => match x with
  | .ins k _ _ => (match tyTag y with
    | some t => if (k == n && ok t) = true then mbind (nox (md [x, y])) notR else mbad
    | none => mbad)
  | _ => mbad
theorem prim_one {ok : String ⊕ Nat → Bool} (hok : ∀ t, ok t = true → PySem.W.notFirst K (G.cls n) (tyV G t) = true) : Prim2 G (rOne G K (G.cls n) (spM G 2 md)) (oneB n ok md) := by
  intro W p σ H s x y vx vy Q pk rx ry fin
  unfold oneB at fin
  cases x <;> try (exact False.elim fin)
  rename_i kx nx xs
  dsimp only at fin
  cases ht : tyTag y with
  | none => rw [ht] at fin; exact False.elim fin
  | some t =>
    rw [ht] at fin
    dsimp only at fin
    split at fin
    · rename_i hk
      rw [Bool.and_eq_true] at hk
      obtain rfl : kx = n := beq_iff_eq.mp hk.1
      obtain ⟨a, dx, vs, rfl, a0, a1, al, as⟩ := id rx
      refine ⟨a, dx, _, p, y, t, rfl, a1, ry, ht, hok t hk.2, rfl, p, [.ins _ nx xs, y], s, ⟨_, _, rfl, rx, _, _, rfl, ry, rfl⟩, pk, ?_⟩
      have fin' : FinG G W (RelE G) p σ H Q (obind (nox (md [.ins kx nx xs, y]) s) notR) := fin
      unfold nox at fin'
      cases q : md [.ins kx nx xs, y] s with
      | bad => rw [q] at fin'; exact False.elim fin'
      | exc c ns zs s1 => rw [q] at fin'; exact False.elim fin'
      | ok d s1 =>
        rw [q] at fin'
        cases d <;> try (exact False.elim fin')
        rename_i b
        intro v H' k' pk' rv
        obtain rfl : v = .bl b := rv
        exact ⟨b, rfl, fin' _ H' k' pk' rfl⟩
    · exact False.elim fin
/-! ### a block behind which more may stand -/
structure DB (G : Gt) (X : Cx) (W : WX) (sts : List Stmt) (t : TS) (m : MS) : Prop where
  app : ∀ rest tr, PSs X rest tr → PSs X (sts ++ rest) (tSeq t tr)
  run : RunS G W t m
variable {st : Stmt} {sts rest : List Stmt} {t u tr : TS} {m m' mr : MS}
theorem db_one (d : DS G X W st t m) : DB G X W [st] t m := ⟨fun _ _ h => pss_cons d.ps h, d.run⟩
theorem db_cons (d : DS G X W st t m) (b : DB G X W sts u m') : DB G X W (st :: sts) (tSeq t u) (sseq m m') :=
  ⟨fun rest tr h => (pss_cons d.ps (b.app rest tr h) : PSs X (st :: (sts ++ rest)) (tSeq t (tSeq u tr))), run_seq d.run b.run⟩
theorem dss_app (b : DB G X W sts t m) (r : DSs G X W rest tr mr) : DSs G X W (sts ++ rest) (tSeq t tr) (sseq m mr) := ⟨b.app rest tr r.ps, run_seq b.run r.run⟩
theorem dss_all (b : DB G X W sts t m) : DSs G X W sts (tSeq t tNext) (sseq m (fun ρ s => .nx ρ s)) := by
  have h := dss_app b (dss_nil (G := G) (X := X) (W := W))
  rwa [List.append_nil] at h
theorem db_grow {n : Nat} {te : TE} {f : Loc → M (List D)} {tb : TS} {mb : MS} (d : PS X st (tAsg te (gName n))) (hi : RunF G W te f) (b : DB G X W sts tb mb) : DB G X W (st :: sts) (tSeq (tAsg te (gName n)) tb) (sGrow n f mb) :=
  ⟨fun rest tr h => (pss_cons d (b.app rest tr h) : PSs X (st :: (sts ++ rest)) (tSeq (tAsg te (gName n)) (tSeq tb tr))), run_grow hi b.run⟩
/-! ### what is done to a list that grows -/
section
variable {o e i value : Expr} {to te ti tv : TE} {fo fe fi fv : Loc → M D} {pos pos' apos cpos : Pos}
/-- the growing list's own heap -/
theorem gro_at {p : Fm} {H : Hp} {s : Pen} {v : V} (pk : PenOk G p H s) (r : Rep G p H .self v) (hg : s.ocls = gro) : ∃ a dx vs, p.obj = some (a, gro, dx) ∧ v = .ref a ∧ H a = some (.lst vs) ∧ s.obj.length = vs.length ∧ clearL (s.obj.map (·.2)) = true ∧ RepL G.bare p H (s.obj.map (·.2)) vs := by
  obtain ⟨a, c, dx, ea, rfl⟩ := r
  obtain ⟨vs, h1, ⟨hl, hc, e⟩, rs⟩ := pk.2.1 a c dx ea
  rw [hg] at e
  subst e
  rw [show objO G gro dx _ vs = .lst vs from if_pos rfl] at h1
  exact ⟨a, dx, vs, ea, rfl, h1, hl, hc, rs⟩
theorem pen_gro {p : Fm} {H : Hp} {s : Pen} {a dx : Addr} {os : List (Str × D)} {us : List V} (pk : PenOk G p H s) (ea : p.obj = some (a, gro, dx)) (hg : s.ocls = gro) (hl : os.length = us.length) (hc : clearL (os.map (·.2)) = true) (rs : RepL G.bare p H (os.map (·.2)) us) :
    Keep p H (upd H a (.lst us)) ∧ PenOk G p (upd H a (.lst us)) { s with obj := os } := by
  have ho : p.out a := p.oko a _ dx ea
  refine ⟨fun b o nb eb => by rw [upd_ne (fun z => nb (.inr ⟨_, dx, by rw [z]; exact ea⟩))]; exact eb, fun b kd eb => ?_, fun x' c' dx' e' => ?_, fun b hb => ?_⟩
  · have hba : b ≠ a := Ne.symm (p.neo b kd _ _ _ eb ea)
    have hp2 : PenR p H b kd { s with obj := os } := pk.1 b kd eb
    exact hp2.keep (upd_ne hba) fun c u hc eh => by rw [upd_ne (fun z => hc (by rw [z]; exact ho))]; exact eh
  · have e3 : (a, gro, dx) = (x', c', dx') := Option.some.inj (ea.symm.trans e')
    cases e3
    refine ⟨us, by rw [show objO G gro dx _ us = .lst us from if_pos rfl]; exact upd_same, ⟨hl, hc, hg.symm⟩, repL_upd ho _ _ rs⟩
  · by_cases z : b = a
    · subst z; exact ⟨_, upd_same⟩
    · rw [upd_ne z]; exact pk.2.2 b hb
def gApp (fo fe : Loc → M D) : MS := fun ρ s => sof (fo ρ s) ρ fun x s1 => match x with
  | .self => if (s1.ocls == gro) = true then sof (fe ρ s1) ρ fun d s2 => (if (s2.ocls == gro && clear d && decide (s2.obj.length < 100000)) = true then .nx ρ { s2 with obj := s2.obj ++ [(("" : Str), d)] } else .bad) else .bad
  | _ => .bad
theorem ds_append (ho : DE G X W o to fo) (he : DE G X W e te fe)
    (hbase : attributeBase o "append" X.env (eval o X.env) = eval o X.env := by rfl)
    (hfew : ((backTo cpos (starEach [e] X.env)).all (fun x => !x.1) && (backToKw cpos (keywordEach [] X.env)).all (fun x => x.1.isSome)
      && decide ([e].length + ([] : List Keyword).length + (if ([] : List Keyword).isEmpty then 0 else 1) < 30)) = true := by rfl)
    (hline : (apos.endLine == cpos.line) = true := by rfl) (hst : starEach [e] X.env = (false, eval e X.env) :: starEach [] X.env := by rfl) (hplain : (backTo cpos (starEach [] X.env)).any (·.1) = false := by rfl)
    (hs : swapsWith (.Call (.Attribute o "append" apos) [e] [] cpos) none pos.line X.env = pure false := by rfl) :
    DS G X W (.Expr (.Call (.Attribute o "append" apos) [e] [] cpos) pos) (tDrop (tBM X.K "list" rAppend to (tCons te tNil))) (gApp fo fe) := by
  refine ⟨ps_expr (pe_bm PySem.F.plainAttrs_list PySem.F.slot_list_append PySem.F.type_list_append mt_append ho.pe (pa_cons he.pe pa_nil hst) hbase hfew hline hst hplain) hs, fun p σ H ρ s Z en pk fin => ?_⟩
  refine ho.run p σ H ρ s _ en pk (FinS.step fin (fun H1 s1 k1 pk1 => en.keep pk.at k1) fun x s1 vx H1 k1 pk1 rx fin1 => ?_)
  have e1 := en.keep pk.at k1
  cases x <;> first
    | exact False.elim fin1
    | skip
  dsimp only at fin1
  split at fin1
  · rename_i hg
    have hg1 : s1.ocls = gro := beq_iff_eq.mp hg
    obtain ⟨a, dx, vs, ea, rfl, h1, _, _, _⟩ := gro_at pk1 rx hg1
    refine ⟨.inl ⟨rfl, vs, SqL.of h1⟩, ?_⟩
    refine he.run p σ H1 ρ s1 _ e1 pk1 (FinS.step fin1 (fun H2 s2 k2 pk2 => e1.keep pk1.at k2) fun d s2 vd H2 k2 pk2 rd fin2 => ?_)
    split at fin2
    · rename_i hok
      simp only [Bool.and_eq_true, beq_iff_eq, decide_eq_true_eq] at hok
      obtain ⟨⟨hg2, hcd⟩, hlen⟩ := hok
      obtain ⟨a', dx', us, ea', e3, h2, hl, hc, rs⟩ := gro_at pk2 (rep_keep pk1.at k2 .self (.ref a) rx) hg2
      cases e3
      have ho : p.out a := p.oko a _ dx' ea'
      refine ⟨a, us, vd, rfl, rfl, h2, by rw [← hl]; exact Nat.lt_trans hlen (by decide), ?_⟩
      have q := pen_gro (os := s2.obj ++ [(("" : Str), d)]) (us := us ++ [vd]) pk2 ea' hg2 (by simp [hl]) (by rw [List.map_append, clearL_app, hc]; simp [clearL, hcd])
        (by
          rw [show (s2.obj ++ [(("" : Str), d)]).map (·.2) = s2.obj.map (·.2) ++ [d] by simp]
          exact repL_app (es := [d]) (us := [vd]) rs ⟨vd, [], rfl, rep_move (G := G) (G' := G.bare) rfl rfl (fun _ _ _ z => z) d vd hcd rd, rfl⟩)
      exact fin2 σ _ q.1 q.2 ((e1.keep pk1.at k2).keep pk2.at q.1)
    · exact False.elim fin2
  · exact False.elim fin1
end
end
end Tw

set_option Elab.async false
set_option linter.all false
set_option maxRecDepth 100000
set_option maxHeartbeats 4000000
set_option autoImplicit false
namespace Tw
open PySem L2 PySem.Spec PyProof.Rows
section
variable {K : PySem.W.Frag} {G : Gt} {W : WX} {X : Cx}
variable {a b c e : Expr} {es : List Expr} {ta tb te to tv ti : TE} {fa fb fe fo fv fi : Loc → M D} {pos : Pos} {tA : TA} {fA : Loc → M (List D)}
/-! ### comprehensions with a test -/
structure DTs (G : Gt) (X : Cx) (W : WX) (ifs : List Expr) (t : TT) (m : Loc → M Bool) : Prop where
  pts : PTs X ifs t
  run : RunG G W RelB t m
theorem dts_nil : DTs G X W [] tYes (fun _ => mret true) := ⟨pts_nil, run_yes⟩
theorem dts_one {t : TT} {m : Loc → M Bool} (h : DT G X W c t m) : DTs G X W [c] t m := ⟨pts_one h.pt, h.run⟩
theorem x_lci {tg iter elt : Expr} {ifs : List Expr} {scope : Scope} (own : List (Str × Nat)) {wi : TI} {g : TG} {gm : D → Loc → Option Loc} {fi : Loc → M (List D)} {tt : TT} {mt : Loc → M Bool} (hc : X.calm = true) (hN : X.N.Nodup) (hi : DI G X W tg iter wi fi) (ok : BlkOk X.N X.env.scope scope own)
    (hg : ∀ (s : Shared) (H : Hp) (C : Addr) (cl : List (Str × Addr)) (fp : List Addr), DG G (X.blk s H scope (compEnvC scope cl C X.env) fp) (own.map (·.2)) tg g gm) (ht : ∀ (s : Shared) (H : Hp) (C : Addr) (cl : List (Str × Addr)) (fp : List Addr), DTs G (X.blk s H scope (compEnvC scope cl C X.env) fp) W0 ifs tt mt)
    (he : ∀ (s : Shared) (H : Hp) (C : Addr) (cl : List (Str × Addr)) (fp : List Addr), DE G (X.blk s H scope (compEnvC scope cl C X.env) fp) W0 elt te fe) (hs : ∀ x, foldedSetIterable iter X.env x = pure x := by intro _; rfl) :
    DE G X W (.ListComp elt [⟨tg, iter, ifs, 0⟩] scope pos) (tLc wi g tt te (own.map (·.2))) (kLc fi gm mt fe (own.map (·.2))) := x_lc own hc hN hi ok hg (fun s H C cl fp => (ht s H C cl fp).pts) (ht X.s_0 (fun _ => none) 0 [] []).run he hs
theorem z_setLci {i : Nat} {y : Str} {py spos : Pos} {tg iter elt : Expr} {ifs : List Expr} {scope : Scope} (own : List (Str × Nat)) {wi : TI} {g : TG} {gm : D → Loc → Option Loc} {fi : Loc → M (List D)} {tt : TT} {mt : Loc → M Bool} (hc : X.calm = true) (hN : X.N.Nodup) (hy : X.N[i]? = some y) (hyl : X.env.scope.names.lookup y = some .local)
    (hsw : swapsWith (.ListComp elt [⟨tg, iter, ifs, 0⟩] scope pos) (some (.Name y py)) spos.line X.env = pure true) (hi : DI G X W tg iter wi fi) (ok : BlkOk X.N X.env.scope scope own)
    (hg : ∀ (s : Shared) (H : Hp) (C : Addr) (cl : List (Str × Addr)) (fp : List Addr), DG G (X.blk s H scope (compEnvC scope cl C X.env) fp) (own.map (·.2)) tg g gm) (ht : ∀ (s : Shared) (H : Hp) (C : Addr) (cl : List (Str × Addr)) (fp : List Addr), DTs G (X.blk s H scope (compEnvC scope cl C X.env) fp) W0 ifs tt mt)
    (he : ∀ (s : Shared) (H : Hp) (C : Addr) (cl : List (Str × Addr)) (fp : List Addr), DE G (X.blk s H scope (compEnvC scope cl C X.env) fp) W0 elt te fe) (hs : ∀ x, foldedSetIterable iter X.env x = pure x := by intro _; rfl) :
    DS G X W (.Assign [.Name y py] (.ListComp elt [⟨tg, iter, ifs, 0⟩] scope pos) spos) (tAsg (tLc wi g tt te (own.map (·.2))) (gName i)) (sasg (kLc fi gm mt fe (own.map (·.2))) (gnm i)) := z_setLc own hc hN hy hyl hsw hi ok hg (fun s H C cl fp => (ht s H C cl fp).pts) (ht X.s_0 (fun _ => none) 0 [] []).run he hs
/-! ### isinstance with a tuple of classes -/
def tyAns (ans : String ⊕ Nat → String ⊕ Nat → Option Bool) (t c : String ⊕ Nat) : Option Bool := match t, c with
  | .inl a, .inl T => if decide (kitB a T = some (subT a T)) = true then some (subT a T) else none
  | _, _ => ans t c
def clsTag : D → Option (String ⊕ Nat)
  | .ty T => some (.inl T)
  | .cls c => some (.inr c)
  | _ => none
def anyR (ans : String ⊕ Nat → String ⊕ Nat → Option Bool) (t : String ⊕ Nat) : List D → Option Bool
  | [] => some false
  | c :: r => match clsTag c with
    | some k => (match tyAns ans t k with
      | some true => some true
      | some false => anyR ans t r
      | none => none)
    | none => none
def isiT (ans : String ⊕ Nat → String ⊕ Nat → Option Bool) (ds : List D) : M D := match ds with
  | [x, .tup (c :: cs)] => if isiT.allTags (c :: cs) = true then (match tyTag x with
    | some t => (match anyR ans t (c :: cs) with
      | some b => mret (.bl b)
      | none => mbad)
    | none => mbad) else mbad
  | _ => mbad
where
  allTags : List D → Bool
    | [] => true
    | c :: r => (clsTag c).isSome && allTags r
theorem tyAns_ok {ans : String ⊕ Nat → String ⊕ Nat → Option Bool} (A : IsA G K ans) {t c : String ⊕ Nat} {b : Bool} (h : tyAns ans t c = some b) : PySem.W.kitOne K (tyV G t) (tyV G c) = some b := by
  cases t with
  | inl a =>
    cases c with
    | inl T =>
      have h' : (if decide (kitB a T = some (subT a T)) = true then some (subT a T) else none) = some b := h
      split at h'
      · rename_i hk
        cases h'
        exact kit_ty (of_decide_eq_true hk)
      · cases h'
    | inr n => exact A.ok _ _ _ h
  | inr m => exact A.ok _ _ _ (by cases c <;> exact h)
theorem clsV_of {p : Fm} {H : Hp} {d : D} {v : V} {k : String ⊕ Nat} (r : Rep G p H d v) (h : clsTag d = some k) : ClsV v (tyV G k) := by
  cases d <;> cases h
  · rw [(show v = _ from r)]; exact .ty _
  · rw [(show v = _ from r)]; exact .own _
theorem anyR_ok {ans : String ⊕ Nat → String ⊕ Nat → Option Bool} (A : IsA G K ans) {p : Fm} {H : Hp} {t : String ⊕ Nat} : ∀ {cs : List D} {vs : List V} {b : Bool}, RepL G p H cs vs → isiT.allTags cs = true → anyR ans t cs = some b → ∃ us, Paired ClsV vs us ∧ PySem.W.kitAny K (tyV G t) us = some b
  | [], vs, b, r, _, h => by
    rw [(show vs = [] from r)]
    cases h
    exact ⟨[], .nil, kitAny_nil⟩
  | c :: cs, vs, b, r, ht, h => by
    obtain ⟨v, vr, rfl, r1, r2⟩ := r
    have ht' : ((clsTag c).isSome && isiT.allTags cs) = true := ht
    rw [Bool.and_eq_true] at ht'
    unfold anyR at h
    cases hk : clsTag c with
    | none => rw [hk] at h; cases h
    | some k =>
      rw [hk] at h
      dsimp only at h
      cases ha : tyAns ans t k with
      | none => rw [ha] at h; cases h
      | some y =>
        rw [ha] at h
        have one := tyAns_ok A ha
        cases y with
        | true =>
          cases h
          obtain ⟨us, p1⟩ := tags_cls (G := G) (p := p) (H := H) r2 ht'.2
          exact ⟨_ :: us, .cons (clsV_of r1 hk) p1, kitAny_cons one (fun z => by cases z) fun _ => rfl⟩
        | false =>
          obtain ⟨us, p1, p2⟩ := anyR_ok A r2 ht'.2 h
          exact ⟨_ :: us, .cons (clsV_of r1 hk) p1, kitAny_cons one (fun _ => p2) fun z => by cases z⟩
where
  tags_cls {G : Gt} {p : Fm} {H : Hp} : ∀ {cs : List D} {vs : List V}, RepL G p H cs vs → isiT.allTags cs = true → ∃ us, Paired ClsV vs us
    | [], vs, r, _ => ⟨[], by rw [(show vs = [] from r)]; exact .nil⟩
    | c :: cs, vs, r, ht => by
      obtain ⟨v, vr, rfl, r1, r2⟩ := r
      have ht' : ((clsTag c).isSome && isiT.allTags cs) = true := ht
      rw [Bool.and_eq_true] at ht'
      obtain ⟨us, p1⟩ := tags_cls r2 ht'.2
      obtain ⟨k, hk⟩ := Option.isSome_iff_exists.mp ht'.1
      exact ⟨_ :: us, .cons (clsV_of r1 hk) p1⟩
theorem tyx_flat {p : Fm} {H : Hp} {d : D} {v : V} {T : String} (r : Rep G p H d v) (h : tyTag d = some (.inl T)) : TyX K H v (.type T) := by
  cases d <;> cases h
  · rw [(show v = _ from r)]; exact .base .non
  · rw [(show v = _ from r)]; exact .base (.bl _)
  · rw [(show v = _ from r)]; exact .base (.int _)
  · rw [(show v = _ from r)]; exact .base (.str _)
  · obtain ⟨a, us, rfl, h0, h1, q1⟩ := r; exact .base (.lst h1)
  · obtain ⟨a, us, rfl, h0, h1, q1⟩ := r; exact .base (.tup h1)
theorem ist_of {ans : String ⊕ Nat → String ⊕ Nat → Option Bool} (A : IsA G K ans) {n : Nat} {c : D} {cs : List D} {b : Bool} (h : anyR ans (.inr n) (c :: cs) = some b) : Isc K (G.cls n) := by
  unfold anyR at h
  cases hk : clsTag c with
  | none => rw [hk] at h; cases h
  | some k =>
    rw [hk] at h
    dsimp only at h
    cases ha : tyAns ans (.inr n) k with
    | none => rw [ha] at h; cases h
    | some y =>
      have ha' : ans (.inr n) k = some y := by cases k <;> exact ha
      exact A.isc _ _ _ ha'
theorem cr_isiT (hK : X.K = K) : CallR X (.builtin "isinstance") (rIsiT K) := by subst hK; exact call_isiT
theorem prim_isiT {ans : String ⊕ Nat → String ⊕ Nat → Option Bool} (A : IsA G K ans) : PrimL G (rIsiT K) (isiT ans) := by
  intro W p σ H s xs vs Q pk rs fin
  unfold isiT at fin
  split at fin
  · rename_i x c cs
    obtain ⟨v, _, rfl, rx, w, _, rfl, ⟨tp, us, rfl, h0, h1, q1⟩, hz⟩ := rs
    obtain rfl := hz
    split at fin
    · rename_i hall
      cases ht : tyTag x with
      | none => rw [ht] at fin; exact False.elim fin
      | some t =>
        rw [ht] at fin
        dsimp only at fin
        cases ha : anyR ans t (c :: cs) with
        | none => rw [ha] at fin; exact False.elim fin
        | some b =>
          rw [ha] at fin
          obtain ⟨ws, p1, p2⟩ := anyR_ok A q1 hall ha
          cases t with
          | inl T => exact ⟨v, tp, us, _, ws, b, rfl, h1, p1, tyx_flat rx ht, p2, fin _ H Keep.refl pk rfl⟩
          | inr n =>
            have z := ist_of A ha
            cases x <;> cases ht
            obtain ⟨a, dx, vs, rfl, a0, a1, al, as⟩ := rx
            exact ⟨_, tp, us, _, ws, b, rfl, h1, p1, .base (.ins a1 z.c z.h1 z.h2 z.h3 z.h4), p2, fin _ H Keep.refl pk rfl⟩
    · exact False.elim fin
  · exact False.elim fin
/-! ### all, any over lists of truths -/
def bls : List D → Option (List Bool)
  | [] => some []
  | .bl b :: r => (match bls r with
    | some bs => some (b :: bs)
    | none => none)
  | _ => none
theorem bls_of {p : Fm} {H : Hp} : ∀ {ds : List D} {vs : List V} {bs : List Bool}, RepL G p H ds vs → bls ds = some bs → vs = bs.map V.bl
  | [], vs, bs, r, h => by
    cases h
    rw [(show vs = [] from r)]
    rfl
  | d :: ds, vs, bs, r, h => by
    obtain ⟨v, vr, rfl, r1, r2⟩ := r
    cases d <;> try (cases h; done)
    rename_i b
    unfold bls at h
    cases q : bls ds with
    | none => rw [q] at h; cases h
    | some bs' =>
      rw [q] at h
      cases h
      rw [(show v = _ from r1), bls_of r2 q]
      rfl
def allD (ds : List D) : M D := match ds with
  | [.lst xs] => (match bls xs with
    | some bs => mret (.bl (bs.all id))
    | none => mbad)
  | _ => mbad
def anyD (ds : List D) : M D := match ds with
  | [.lst xs] => (match bls xs with
    | some bs => mret (.bl (bs.any id))
    | none => mbad)
  | _ => mbad
theorem cr_all' (hK : X.K = K) (hc : X.calm = true) : CallR X (.builtin "all") (rAll K) := by subst hK; exact cr_all hc
theorem cr_any' (hK : X.K = K) (hc : X.calm = true) : CallR X (.builtin "any") (rAny K) := by subst hK; exact cr_any hc
theorem prim_all : PrimL G (rAll K) allD := by
  intro W p σ H s xs vs Q pk rs fin
  unfold allD at fin
  split at fin
  · rename_i xs
    obtain ⟨v, _, rfl, ⟨a, us, rfl, h0, h1, q1⟩, hz⟩ := rs
    obtain rfl := hz
    cases q : bls xs with
    | none => rw [q] at fin; exact False.elim fin
    | some bs =>
      rw [q] at fin
      have e := bls_of q1 q
      subst e
      exact ⟨a, bs, rfl, SqL.of h1, fin _ H Keep.refl pk rfl⟩
  · exact fin.elim
theorem prim_any : PrimL G (rAny K) anyD := by
  intro W p σ H s xs vs Q pk rs fin
  unfold anyD at fin
  split at fin
  · rename_i xs
    obtain ⟨v, _, rfl, ⟨a, us, rfl, h0, h1, q1⟩, hz⟩ := rs
    obtain rfl := hz
    cases q : bls xs with
    | none => rw [q] at fin; exact False.elim fin
    | some bs =>
      rw [q] at fin
      have e := bls_of q1 q
      subst e
      exact ⟨a, bs, rfl, SqL.of h1, fin _ H Keep.refl pk rfl⟩
  · exact fin.elim
/-! ### x[lo:hi] -/
structure DO (G : Gt) (X : Cx) (W : WX) (e : Option Expr) (t : TO) (m : Loc → M (Option Int)) : Prop where
  po : PO X e t
  run : RunG G W (fun _ _ x y => x = y) t m
def kPart (fe : Loc → M D) : Loc → M (Option Int) := fun ρ => mbind (fe ρ) fun d => match d with
  | .int i => mret (some i)
  | _ => mbad
def kNo : Loc → M (Option Int) := fun _ => mret none
theorem do_none : DO G X W none tNoPart kNo := ⟨po_none, fun p σ H ρ s Q e pk fin => fin _ H Keep.refl pk rfl⟩
theorem do_some (h : DE G X W e te fe) : DO G X W (some e) (tPart te) (kPart fe) := by
  refine ⟨po_some h.pe, fun p σ H ρ s Q en pk fin => ?_⟩
  refine h.run p σ H ρ s _ en pk (fin.step fun x s1 v H1 k1 pk1 rx fin1 => ?_)
  cases x <;> try (exact False.elim fin1)
  rename_i i
  obtain rfl : v = .int i := rx
  exact ⟨i, rfl, fin1 _ H1 Keep.refl pk1 rfl⟩
def cutD (xs : List D) (lo hi : Option Int) : List D := (xs.drop (HT.sIx xs.length 0 lo)).take (HT.sIx xs.length xs.length hi - HT.sIx xs.length 0 lo)
theorem repL_drop {p : Fm} {H : Hp} : ∀ (n : Nat) {ds : List D} {vs : List V}, RepL G p H ds vs → RepL G p H (ds.drop n) (vs.drop n)
  | 0, _, _, r => r
  | n + 1, [], vs, r => by rw [(show vs = [] from r)]; exact rfl
  | n + 1, d :: ds, vs, r => by
    obtain ⟨v, vr, rfl, r1, r2⟩ := r
    exact repL_drop n r2
theorem repL_take {p : Fm} {H : Hp} : ∀ (n : Nat) {ds : List D} {vs : List V}, RepL G p H ds vs → RepL G p H (ds.take n) (vs.take n)
  | 0, _, _, r => rfl
  | n + 1, [], vs, r => by rw [(show vs = [] from r)]; exact rfl
  | n + 1, d :: ds, vs, r => by
    obtain ⟨v, vr, rfl, r1, r2⟩ := r
    exact ⟨v, vr.take n, rfl, r1, repL_take n r2⟩
theorem repL_cut {p : Fm} {H : Hp} {ds : List D} {vs : List V} (lo hi : Option Int) (r : RepL G p H ds vs) : RepL G p H (cutD ds lo hi) (cutV vs lo hi) := by
  unfold cutD cutV
  rw [← repL_len r]
  exact repL_take _ (repL_drop _ r)
def rSl (K : PySem.W.Frag) : V → Option Int → Option Int → Hp → VK → Prop := fun x lo hi H Q => rSlL K x lo hi H Q ∨ rSlA K x lo hi H Q
theorem sl_seq (hK : X.K = K) : SlR X (rSl K) := by
  subst hK
  intro pins s σ H x v vl vu lo hi sl Q I rx hs pl pu h
  rcases h with h | h
  · exact sl_list pins s σ H x v vl vu lo hi sl Q I rx hs pl pu h
  · exact sl_tupA pins s σ H x v vl vu lo hi sl Q I rx hs pl pu h
def kSl (fe : Loc → M D) (fl fh : Loc → M (Option Int)) : Loc → M D := fun ρ => mbind (fe ρ) fun x => mbind (fl ρ) fun l => mbind (fh ρ) fun h => match x with
  | .lst xs => mret (.lst (cutD xs l h))
  | .tup xs => mret (.tup (cutD xs l h))
  | _ => mbad
theorem cut_whole {xs : List D} {lo hi : Option Int} (h : HT.sIx xs.length 0 lo = 0 ∧ HT.sIx xs.length xs.length hi = xs.length) : cutD xs lo hi = xs := by
  unfold cutD
  rw [h.1, h.2]
  simp
theorem x_sl {lo hi : Option Expr} {tl th : TO} {fl fh : Loc → M (Option Int)} {p2 : Pos} (hK : X.K = K) (he : DE G X W e te fe) (hl : DO G X W lo tl fl) (hh : DO G X W hi th fh) : DE G X W (.Subscript e (.Slice lo hi none p2) pos) (tSl (rSl K) te tl th) (kSl fe fl fh) := by
  refine ⟨pe_slice (sl_seq hK) he.pe hl.po hh.po, fun p σ H ρ s Q en pk fin => ?_⟩
  refine he.run p σ H ρ s _ en pk (fin.step fun x s1 v H1 k1 pk1 rx fin1 => ?_)
  have e1 := en.keep pk.at k1
  refine hl.run p σ H1 ρ s1 _ e1 pk1 (fin1.step fun l s2 l' H2 k2 pk2 el fin2 => ?_)
  obtain rfl := el
  have e2 := e1.keep pk1.at k2
  refine hh.run p σ H2 ρ s2 _ e2 pk2 (fin2.step fun h s3 h' H3 k3 pk3 eh fin3 => ?_)
  obtain rfl := eh
  have r3 := rep_keep pk2.at k3 _ _ (rep_keep pk1.at k2 _ _ rx)
  cases x <;> try (exact False.elim fin3)
  · rename_i xs
    obtain ⟨a, us, rfl, h0, h1, q1⟩ := r3
    refine .inl ⟨a, us, rfl, SqL.of h1, fun q hq => ?_⟩
    have k : Keep p H3 (upd H3 q (.lst (cutV us l h))) := Keep.new hq
    exact fin3 _ _ k (pk3.new hq) ⟨q, _, rfl, pk3.free hq, upd_same, repL_keep pk3.at k _ _ (repL_cut l h q1)⟩
  · rename_i xs
    obtain ⟨a, us, rfl, h0, h1, q1⟩ := id r3
    refine .inr ⟨a, us, rfl, SqT.of h1, fun hw => ?_, fun hw q hq => ?_⟩
    · refine fin3 _ H3 Keep.refl pk3 ?_
      show Rep G p H3 (.tup (cutD xs l h)) _
      rw [cut_whole (by rw [repL_len q1]; exact hw)]
      exact r3
    · have k : Keep p H3 (upd H3 q (.tup (cutV us l h))) := Keep.new hq
      exact fin3 _ _ k (pk3.new hq) ⟨q, _, rfl, pk3.free hq, upd_same, repL_keep pk3.at k _ _ (repL_cut l h q1)⟩
/-! ### reading a list that grows -/
def itemG (x y : D) : M D := fun (s : Pen) => match x with
  | .self => if (s.ocls == gro) = true then itemD (.lst (s.obj.map (·.2))) y s else .bad
  | _ => itemD x y s
theorem prim_itemG : Prim2 G (fun x y H Q => rIxL K x y H Q ∨ rIxT K x y H Q) itemG := by
  intro W p σ H s x y vx vy Q pk rx ry fin
  cases x <;> try (exact prim_item W p σ H s _ y vx vy Q pk rx ry fin)
  have fin' : FinG G W (RelE G) p σ H Q (if (s.ocls == gro) = true then itemD (.lst (s.obj.map (·.2))) y s else Out.bad) := fin
  split at fin'
  · rename_i hg
    obtain ⟨a, dx, vs, ea, rfl, h1, hl, hc, rs⟩ := gro_at pk rx (beq_iff_eq.mp hg)
    have q1 : RepL G p H (s.obj.map (·.2)) vs := repL_move (G := G.bare) (G' := G) (p := p) (q := p) rfl rfl (fun _ _ _ z => z) _ _ hc rs
    revert fin' q1
    generalize s.obj.map (·.2) = L
    intro fin' q1
    cases y <;> try (exact False.elim fin')
    rename_i i
    obtain rfl : vy = .int i := ry
    have fin2 : FinG G W (RelE G) p σ H Q ((match atI L i with | some d => (mret d : M D) | none => mbad) s) := fin'
    cases h : atI L i with
    | none => rw [h] at fin2; exact False.elim fin2
    | some d =>
      rw [h] at fin2
      obtain ⟨v, h2, h3⟩ := atI_rep q1 h
      exact .inl ⟨a, vs, i, v, rfl, rfl, SqL.of h1, h2, fin2 v H Keep.refl pk h3⟩
  · exact False.elim fin'
theorem x_ixG (hK : X.K = K) (ha : DE G X W a ta fa) (hb : DE G X W b tb fb) (hs : PlainIx b := by exact fun _ _ => rfl) : DE G X W (.Subscript a b pos) (tOp (fun x y H Q => rIxL K x y H Q ∨ rIxT K x y H Q) ta tb) (kOp itemG fa fb) :=
  ⟨pe_ix (ix_any hK) ha.pe hb.pe hs, run_op prim_itemG ha.run hb.run⟩
def lenG (ds : List D) : M D := fun (s : Pen) => match ds with
  | [.self] => if (s.ocls == gro) = true then .ok (.int (s.obj.length : Nat)) s else .bad
  | _ => lenD ds s
theorem prim_lenG : PrimL G (fun xs H Q => ∃ p ys, xs = [.ref p] ∧ (SqL K H p ys ∨ SqT K H p ys) ∧ Q (.int ys.length) H) lenG := by
  intro W p σ H s xs vs Q pk rs fin
  unfold lenG at fin
  split at fin
  · obtain ⟨v, _, rfl, rx, hz⟩ := rs
    obtain rfl := hz
    split at fin
    · rename_i hg
      obtain ⟨a, dx, us, ea, rfl, h1, hl, hc, rs⟩ := gro_at pk rx (beq_iff_eq.mp hg)
      exact ⟨a, us, rfl, .inl (SqL.of h1), by rw [← hl]; exact fin _ H Keep.refl pk rfl⟩
    · exact False.elim fin
  · exact prim_len W p σ H s _ vs Q pk rs fin
/-! ### list * int -/
def repD (xs : List D) (k : Int) : List D := (List.replicate k.toNat xs).flatten
theorem repL_rep {p : Fm} {H : Hp} {ds : List D} {vs : List V} (r : RepL G p H ds vs) : ∀ n : Nat, RepL G p H (List.replicate n ds).flatten (List.replicate n vs).flatten
  | 0 => rfl
  | n + 1 => by
    rw [List.replicate_succ, List.replicate_succ, List.flatten_cons, List.flatten_cons]
    exact repL_app r (repL_rep r n)
def repL' (x y : D) : M D := match x, y with
  | .lst xs, .int k => if decide (-1000000 ≤ k ∧ k ≤ 1000000 ∧ xs.length * k.toNat ≤ 1000000) = true then mret (.lst (repD xs k)) else mbad
  | _, _ => mbad
theorem prim_rep : Prim2 G rRep repL' := by
  intro W p σ H s x y vx vy Q pk rx ry fin
  unfold repL' at fin
  split at fin
  · rename_i xs k
    split at fin
    · rename_i hd
      obtain ⟨h1, h2, h3⟩ := of_decide_eq_true hd
      obtain ⟨a, us, rfl, a0, a1, q1⟩ := rx
      obtain rfl : vy = .int k := ry
      refine ⟨a, k, us, rfl, rfl, a1, by omega, by omega, by rw [← repL_len q1]; exact Nat.le_trans h3 (by decide), fun l hl => ?_⟩
      have kk : Keep p H (upd H l (.lst (List.replicate k.toNat us).flatten)) := Keep.new hl
      exact fin _ _ kk (pk.new hl) ⟨l, _, rfl, pk.free hl, upd_same, repL_keep pk.at kk _ _ (repL_rep q1 _)⟩
    · exact False.elim fin
  · exact False.elim fin
def mulIR : D → D → M D := fun x y => match x with
  | .lst _ => repL' x y
  | _ => mulI x y
/-! ### max, min of two -/
def max2D (ds : List D) : M D := match ds with
  | [.int i, .int j] => mret (.int (if j > i then j else i))
  | _ => mbad
def min2D (ds : List D) : M D := match ds with
  | [.int i, .int j] => mret (.int (if j < i then j else i))
  | _ => mbad
theorem prim_max2 : PrimL G (fun xs H Q => ∃ i j, xs = [.int i, .int j] ∧ Q (.int (if j > i then j else i)) H) max2D := by
  intro W p σ H s xs vs Q pk rs fin
  unfold max2D at fin
  split at fin
  · rename_i i j
    obtain ⟨v, _, rfl, rx, w, _, rfl, ry, hz⟩ := rs
    obtain rfl := hz
    obtain rfl : v = .int i := rx
    obtain rfl : w = .int j := ry
    exact ⟨i, j, rfl, fin _ H Keep.refl pk rfl⟩
  · exact False.elim fin
theorem prim_min2 : PrimL G (fun xs H Q => ∃ i j, xs = [.int i, .int j] ∧ Q (.int (if j < i then j else i)) H) min2D := by
  intro W p σ H s xs vs Q pk rs fin
  unfold min2D at fin
  split at fin
  · rename_i i j
    obtain ⟨v, _, rfl, rx, w, _, rfl, ry, hz⟩ := rs
    obtain rfl := hz
    obtain rfl : v = .int i := rx
    obtain rfl : w = .int j := ry
    exact ⟨i, j, rfl, fin _ H Keep.refl pk rfl⟩
  · exact False.elim fin
def kFew (fA : Loc → M (List D)) : Loc → M (List D) := fun ρ => mbind (fA ρ) few
theorem z_append {o e : Expr} {to te : TE} {fo fe : Loc → M D} {apos cpos : Pos} (ho : DE G X W o to fo) (he : DE G X W e te fe)
    (hbase : attributeBase o "append" X.env (eval o X.env) = eval o X.env := by rfl)
    (hfew : ((backTo cpos (starEach [e] X.env)).all (fun x => !x.1) && (backToKw cpos (keywordEach [] X.env)).all (fun x => x.1.isSome)
      && decide ([e].length + ([] : List Keyword).length + (if ([] : List Keyword).isEmpty then 0 else 1) < 30)) = true := by rfl)
    (hline : (apos.endLine == cpos.line) = true := by rfl) (hst : starEach [e] X.env = (false, eval e X.env) :: starEach [] X.env := by rfl) (hplain : (backTo cpos (starEach [] X.env)).any (·.1) = false := by rfl)
    (hs : swapsWith (.Call (.Attribute o "append" apos) [e] [] cpos) none pos.line X.env = pure false := by rfl) :
    DS G X W (.Expr (.Call (.Attribute o "append" apos) [e] [] cpos) pos) (tDrop (tBM X.K "list" rAppend to (tCons te tNil))) (gApp fo fe) := ds_append ho he hbase hfew hline hst hplain hs
/-! ### x[i] = e, x a list that grows -/
def objSet (os : List (Str × D)) (j : Nat) (d : D) : List (Str × D) := os.set j (("" : Str), d)
def gSet (fo fi fv : Loc → M D) : MS := fun ρ s => sof (fv ρ s) ρ fun d s1 => sof (fo ρ s1) ρ fun x s2 => match x with
  | .self => sof (fi ρ s2) ρ fun k s3 => (match k with
    | .int i => (match ixN s3.obj.length i with
      | some j => if (s3.ocls == gro && clear d) = true then .nx ρ { s3 with obj := objSet s3.obj j d } else .bad
      | none => .bad)
    | _ => .bad)
  | _ => .bad
theorem clearL_set : ∀ {ds : List D} {j : Nat} {d : D}, clearL ds = true → clear d = true → clearL (ds.set j d) = true
  | [], j, d, _, _ => rfl
  | x :: ds, 0, d, h, hd => by
    have h' : (clear x && clearL ds) = true := h
    rw [Bool.and_eq_true] at h'
    show (clear d && clearL ds) = true
    rw [hd, h'.2]; rfl
  | x :: ds, j + 1, d, h, hd => by
    have h' : (clear x && clearL ds) = true := h
    rw [Bool.and_eq_true] at h'
    show (clear x && clearL (ds.set j d)) = true
    rw [h'.1, clearL_set h'.2 hd]; rfl
theorem z_gset {o i value : Expr} {to ti tv : TE} {fo fi fv : Loc → M D} {pos' p2 : Pos} (ho : DE G X W o to fo) (hi : DE G X W i ti fi) (hv : DE G X W value tv fv)
    (has : ∀ v, assign (.Subscript o i pos') X.env v = (do
      let ov ← holding [v] (eval o X.env)
      let iv ← holding [v, ov] (eval i X.env)
      standAt pos'
      holding [v, ov, iv] (setItem ov iv v)
      release [v, ov, iv] []) := by intro _; rfl)
    (hs : swapsWithSole [.Subscript o i pos'] value p2.line X.env = pure false := by rfl) (hw : swappedStores [.Subscript o i pos'] value X.env = pure none := by rfl)
    (h1 : (assignEach [.Subscript o i pos'] X.env).map (·.2) = [assign (.Subscript o i pos') X.env] := by rfl) :
    DS G X W (.Assign [.Subscript o i pos'] value p2) (tAsg tv (gSub to ti rSetL)) (gSet fo fi fv) := by
  refine ⟨ps_asg hv.pe (pg_sub ho.pe hi.pe set_list has) hs hw h1, fun p σ H ρ s Z en pk fin => ?_⟩
  refine hv.run p σ H ρ s _ en pk (FinS.step fin (fun H1 s1 k1 pk1 => en.keep pk.at k1) fun d s1 vd H1 k1 pk1 rd fin1 => ?_)
  have e1 := en.keep pk.at k1
  refine ho.run p σ H1 ρ s1 _ e1 pk1 (FinS.step fin1 (fun H2 s2 k2 pk2 => e1.keep pk1.at k2) fun x s2 vx H2 k2 pk2 rx fin2 => ?_)
  have e2 := e1.keep pk1.at k2
  cases x <;> first
    | exact False.elim fin2
    | skip
  dsimp only at fin2
  refine hi.run p σ H2 ρ s2 _ e2 pk2 (FinS.step fin2 (fun H3 s3 k3 pk3 => e2.keep pk2.at k3) fun k s3 vk H3 k3 pk3 rk fin3 => ?_)
  have e3 := e2.keep pk2.at k3
  cases k <;> first
    | exact False.elim fin3
    | skip
  rename_i i
  obtain rfl : vk = .int i := rk
  dsimp only at fin3
  cases hj : ixN s3.obj.length i with
  | none => rw [hj] at fin3; exact False.elim fin3
  | some j =>
    rw [hj] at fin3
    dsimp only at fin3
    split at fin3
    · rename_i hok
      simp only [Bool.and_eq_true, beq_iff_eq] at hok
      obtain ⟨hg, hcd⟩ := hok
      obtain ⟨a, dx, us, ea, e4, h3, hl, hc, rs⟩ := gro_at pk3 (rep_keep pk2.at k3 .self vx rx) hg
      subst e4
      have rd3 : Rep G p H3 d vd := rep_keep pk2.at k3 _ _ (rep_keep pk1.at k2 _ _ rd)
      have hm : (objSet s3.obj j d).map (·.2) = (s3.obj.map (·.2)).set j d := by unfold objSet; rw [List.map_set]
      refine ⟨a, us, i, j, rfl, rfl, h3, by rw [← hl]; exact hj, ?_⟩
      have q := pen_gro (os := objSet s3.obj j d) (us := us.set j vd) pk3 ea hg (by unfold objSet; simp [hl]) (by rw [hm]; exact clearL_set hc hcd)
        (by rw [hm]; exact repL_set rs (rep_move (G := G) (G' := G.bare) rfl rfl (fun _ _ _ z => z) d vd hcd rd3))
      exact fin3 σ _ q.1 q.2 (e3.keep pk3.at q.1)
    · exact False.elim fin3
/-! ### blocks with a list that grows -/
theorem z_grow (k : Nat) {n : Nat} {rest : List Stmt} {x : Str} {px p1 : Pos} {tb : TS} {mb md mr : MS} {tr : TS} (d : DS G X W (.Assign [.Name x px] (.List es pos) p1) (tAsg (tLst tA) (gName n)) md) (ha : DA G X W es tA fA) (b : DB G X W (rest.take k) tb mb) (r : DSs G X W (rest.drop k) tr mr) :
    DSs G X W (.Assign [.Name x px] (.List es pos) p1 :: rest) (tSeq (tSeq (tAsg (tLst tA) (gName n)) tb) tr) (sseq (sGrow n (kFew fA) mb) mr) := by
  have h := dss_app (db_grow (f := kFew fA) d.ps (runf_lst ha.run) b) r
  rw [List.cons_append, List.take_append_drop] at h
  exact h
theorem z_growE {n : Nat} {rest : List Stmt} {x : Str} {px p1 : Pos} {tb : TS} {mb md : MS} (d : DS G X W (.Assign [.Name x px] (.List es pos) p1) (tAsg (tLst tA) (gName n)) md) (ha : DA G X W es tA fA) (b : DB G X W rest tb mb) :
    DSs G X W (.Assign [.Name x px] (.List es pos) p1 :: rest) (tSeq (tSeq (tAsg (tLst tA) (gName n)) tb) tNext) (sseq (sGrow n (kFew fA) mb) zNx) := dss_all (db_grow (f := kFew fA) d.ps (runf_lst ha.run) b)
end
end Tw

set_option Elab.async false
set_option linter.all false
set_option maxRecDepth 100000
set_option maxHeartbeats 4000000
set_option autoImplicit false
/-! ### pairs that are walked: zip and enumerate, over lists and tuples alike -/
namespace Tw
open PySem L2 PySem.Spec PyProof.Rows
def SqX (k : Bool) (K : PySem.W.Frag) (H : Hp) (a : Addr) (xs : List V) : Prop := match k with
  | true => SqT K H a xs
  | false => SqL K H a xs
def IterX (k : Bool) (h : Heap) (it a : Addr) (i : Nat) : Prop := match k with
  | true => h.IsTupleIter it a i
  | false => h.IsListIter it a i
def HoldX (k : Bool) (h : Heap) (a : Addr) (items : Array Value) : Prop := match k with
  | true => h.IsTuple a items
  | false => h.IsList a items
def mkIt (k : Bool) (a : Addr) : Obj := match k with
  | true => { cls := .type "tuple_iterator", data := .fields #[.ref a, .int 0 0] }
  | false => { cls := .type "list_iterator", data := .fields #[.ref a, .int 0 0] }
section
variable {prog : Program} {w : World} {A : Around} {X : Cx} {pins : List (Addr × Obj)} {σ : L2.St} {H : Hp} {s : Shared} {K : PySem.W.Frag}
theorem drawX (k : Bool) (hh : A.handled = none) {it a : Addr} (hne : a ≠ it) (items : Array Value) :
    Draws prog w A it [it, a] items.size (fun i v => items[i]? = some v) (fun i h => IterX k h it a i ∧ HoldX k h a items) := by
  cases k
  · exact Draws.list hh it a hne items
  · exact Draws.tuple hh it a hne items
theorem beginX (k : Bool) (a : Addr) (items : Array Value) : Begins (.ref a) (mkIt k a) (fun h => HoldX k h a items) := by
  cases k
  · exact begins_list a items
  · exact begins_tuple a items
theorem iterX_of {k : Bool} {h : Heap} {it a : Addr} (e : h.get? it = some (mkIt k a)) : IterX k h it a 0 := by
  cases k
  · exact ⟨_, e, rfl, rfl⟩
  · exact ⟨_, e, rfl, rfl⟩
theorem iterX_at {k : Bool} {h h' : Heap} {it a : Addr} {i : Nat} (x : IterX k h it a i) (e : ∀ o, h.get? it = some o → h'.get? it = some o) : IterX k h' it a i := by
  cases k
  · exact Heap.IsListIter.at x e
  · exact Heap.IsTupleIter.at x e
theorem iterX_get {k : Bool} {h : Heap} {it a : Addr} {i : Nat} (x : IterX k h it a i) : ∃ o, h.get? it = some o ∧ ∀ v, o.data ≠ .cell v := by
  cases k
  · obtain ⟨o, e, _, d⟩ := x
    exact ⟨o, e, fun v q => by rw [d] at q; cases q⟩
  · obtain ⟨o, e, _, d⟩ := x
    exact ⟨o, e, fun v q => by rw [d] at q; cases q⟩
theorem sqX_vals {k : Bool} {a : Addr} {xs : List V} (I : Inv X pins σ H s) (h : SqX k X.K H a xs) : ∃ its : List Value, Vals xs its ∧ HoldX k s.heap a its.toArray := by
  cases k
  · obtain ⟨its, r, p, _⟩ := I.list h
    exact ⟨its, r, p.isList⟩
  · obtain ⟨its, r, p, _⟩ := I.tuple h
    exact ⟨its, r, p⟩
theorem sqX_inj {k : Bool} {a : Addr} {xs ys : List V} (I : Inv X pins σ H s) (h : SqX k X.K H a xs) (h' : SqX k X.K H a ys) : xs = ys := by
  cases k
  · exact I.list_inj h h'
  · exact I.tuple_inj h h'
theorem holdX_lt {k : Bool} {h : Heap} {a : Addr} {items : Array Value} (x : HoldX k h a items) : a < h.objs.size := by
  cases k
  · obtain ⟨o, e, _⟩ := x; exact Heap.lt_size e
  · obtain ⟨o, e, _⟩ := x; exact Heap.lt_size e
/-! #### zip -/
def ItzX (K : PySem.W.Frag) (k l : Bool) (a b : Addr) : It :=
  ⟨fun i H => ∃ (xs ys : List V) (x y : V), SqX k K H a xs ∧ SqX l K H b ys ∧ xs[i]? = some x ∧ ys[i]? = some y,
   fun i H v H' => ∃ T x y, v = .ref T ∧ H T = none ∧ H' = upd H T (.tup [x, y]) ∧ (∀ xs, SqX k K H a xs → xs[i]? = some x) ∧ (∀ ys, SqX l K H b ys → ys[i]? = some y),
   fun i H => ∃ xs ys : List V, SqX k K H a xs ∧ SqX l K H b ys ∧ i ≤ xs.length ∧ i ≤ ys.length ∧ (i = xs.length ∨ i = ys.length)⟩
theorem turn_zipX {elts : List Expr} {kk : Nat} {tpos : Pos} {k l : Bool} {a b z TI TO i1 i2 : Addr} (S : ZipSep2 z TI TO i1 i2 [i1, a] [i2, b]) (ha : a ≠ i1) (hb : b ≠ i2) :
    Turn prog w K (.Tuple elts kk tpos) (ItzX K k l a b) [z, TI, TO, i1, i2] z (fun i h => IsZip h z TI TO .none ∧ IsTupOf2 h TI (.ref i1) (.ref i2) ∧ (∃ x y, IsTupOf2 h TO x y) ∧ IterX k h i1 a i ∧ IterX l h i2 b i) where
  mem := List.mem_cons_self ..
  obj := fun i h st c hc => by
    obtain ⟨q0, q1, ⟨x, y, q2⟩, q3, q4⟩ := st
    simp only [List.mem_cons, List.not_mem_nil, or_false] at hc
    rcases hc with e | e | e | e | e <;> subst e
    · exact ⟨_, q0, fun v z => nomatch z⟩
    · exact ⟨_, q1, fun v z => nomatch z⟩
    · exact ⟨_, q2, fun v z => nomatch z⟩
    · exact iterX_get q3
    · exact iterX_get q4
  keep := fun i h h' st kp => by
    obtain ⟨q0, q1, ⟨x, y, q2⟩, q3, q4⟩ := st
    exact ⟨kp _ (by simp) _ q0, kp _ (by simp) _ q1, ⟨x, y, kp _ (by simp) _ q2⟩, iterX_at q3 fun o e => kp _ (by simp) o e, iterX_at q4 fun o e => kp _ (by simp) o e⟩
  item := by
    rintro X rfl rfl rfl calm i pins s σ H E I fp ⟨q0, q1, ⟨x0, y0, q2⟩, q3, q4⟩ ⟨xs, ys, x, y, sx, sy, ex, ey⟩
    have hd0 : X.A.in1.handled = none := I.ok.hd calm
    obtain ⟨us, ru, hu⟩ := sqX_vals I sx
    obtain ⟨vs, rv, hv⟩ := sqX_vals I sy
    obtain ⟨u, eu, xu⟩ := ru.get ex
    obtain ⟨v, ev, yv⟩ := rv.get ey
    have l1 : i < us.toArray.size := by have := (List.getElem?_eq_some_iff.mp eu).1; simpa using this
    have l2 : i < vs.toArray.size := by have := (List.getElem?_eq_some_iff.mp ev).1; simpa using this
    refine wpAny_pyNext_zipD2_item S (drawX k hd0 ha us.toArray) (drawX l hd0 hb vs.toArray) q0 q1 q2 ⟨q3, hu⟩ ⟨q4, hv⟩ l1 l2 fun u' v' g tk pu pv z0 z2 z3 z4 zT zs zk => ?_
    obtain rfl : u = u' := by have e : us[i]? = some u' := by simpa using pu
                              rw [eu] at e; exact Option.some.inj e
    obtain rfl : v = v' := by have e : vs[i]? = some v' := by simpa using pv
                              rw [ev] at e; exact Option.some.inj e
    have zl : z < s.heap.objs.size := Heap.lt_size q0
    refine ⟨_, rfl, wpAny_letOwnedTupleGo_zip (s := { s with heap := g, toks := tk }) z0 fun g2 w0 sb => ?_⟩
    have stay : ∀ c o, c ∉ [z, TI, TO, i1, i2] → s.heap.get? c = some o → g2.get? c = some o := fun c o hc e => by
      simp only [List.mem_cons, List.not_mem_nil, or_false, not_or] at hc
      exact (sb.2 c hc.1).trans (zk c o hc.1 hc.2.2.1 hc.2.2.2.1 hc.2.2.2.2 e)
    have new : ObjOk X.prog X.w (upd H s.heap.objs.size (.tup [x, y])) g2 s.heap.objs.size (.tup [x, y]) :=
      ⟨show 2 ≤ sizeLine by decide, [u, v], .cons xu (.cons yv .nil), ⟨_, (sb.2 _ (Nat.ne_of_gt zl)).trans zT, rfl, _, rfl⟩⟩
    refine ⟨.ref s.heap.objs.size, _, I.turnedNew stay fp (Nat.le_refl _) new, rfl, ⟨_, x, y, rfl, I.hok.fresh (Nat.le_refl _), rfl, fun m hm => by rw [sqX_inj I hm sx]; exact ex, fun m hm => by rw [sqX_inj I hm sy]; exact ey⟩,
      ⟨w0, (sb.2 _ S.TIz).trans (zk _ _ S.TIz S.TITO S.TIi1 S.TIi2 q1), ⟨u, v, (sb.2 _ S.TOz).trans z2⟩, iterX_at z3.1 fun o e => (sb.2 _ S.zi1.symm).trans e, iterX_at z4.1 fun o e => (sb.2 _ S.zi2.symm).trans e⟩, fun c hc => ?_⟩
    have lt : c < s.heap.objs.size := by
      simp only [List.mem_cons, List.not_mem_nil, or_false] at hc
      rcases hc with e | e | e | e | e <;> subst e
      · exact zl
      · exact Heap.lt_size q1
      · exact Heap.lt_size q2
      · obtain ⟨_, e, _⟩ := iterX_get q3; exact Heap.lt_size e
      · obtain ⟨_, e, _⟩ := iterX_get q4; exact Heap.lt_size e
    rw [upd_ne (Nat.ne_of_lt lt)]
    exact (fp c hc).1
  done := by
    rintro X rfl rfl rfl calm i pins s σ H E I fp ⟨q0, q1, ⟨x0, y0, q2⟩, q3, q4⟩ ⟨xs, ys, sx, sy, lx, ly, he⟩
    have hd0 : X.A.in1.handled = none := I.ok.hd calm
    obtain ⟨us, ru, hu⟩ := sqX_vals I sx
    obtain ⟨vs, rv, hv⟩ := sqX_vals I sy
    have n1 := ru.length
    have n2 := rv.length
    refine wpAny_pyNext_zipD2_end S (drawX k hd0 ha us.toArray) (drawX l hd0 hb vs.toArray) q0 q1 q2 ⟨q3, hu⟩ ⟨q4, hv⟩ (by simp; omega) (by simp; omega) (by simp; omega) fun g tk zk => ⟨rfl, I.turnedL (t' := tk) (ch := [z, TI, TO, i1, i2]) (fun c o hc e => ?_) fp⟩
    simp only [List.mem_cons, List.not_mem_nil, or_false, not_or] at hc
    exact zk c o hc.1 hc.2.2.1 hc.2.2.2.1 hc.2.2.2.2 e
  self := fun A i s Q E st h => wpAny_pyIter_zip st.1 h
def iZipX (K : PySem.W.Frag) (ta : TA) : TI := fun σ H R => ta σ H fun vs H1 => ∃ k l a b xs ys, vs = [.ref a, .ref b] ∧ SqX k K H1 a xs ∧ SqX l K H1 b ys ∧ R (ItzX K k l a b) H1
theorem pi_zipX {e e2 : Expr} {ta : TA} {p pos tpos : Pos} {elts : List Expr} {kk : Nat} (hg : Gl X "zip") (hm : X.mg "zip" = none) (ha : PA X [e, e2] ta)
    (hs : starEach [e, e2] X.env = (false, eval e X.env) :: starEach [e2] X.env := by rfl) (hpl : (backTo pos (starEach [e2] X.env)).any (·.1) = false := by rfl) :
    PI X (.Tuple elts kk tpos) (.Call (.Name "zip" p) [e, e2] [] pos) (iZipX X.K ta) := by
  refine ⟨fun pins s σ H R I h => Call_ (ld_blt I hg hm PyProof.Rows.boot_zip (PyProof.Rows.callWith_type1 (thn (ha.run pos pins s σ H _ I h) fun us s1 ⟨vs, H1, I1, r1, q1⟩ => ?_) hs hpl))⟩
  obtain ⟨k, l, a, b, xs, ys, rfl, sx, sy, q⟩ := q1
  cases r1 with
  | cons ra rr =>
    cases rr with
    | cons rb rr =>
      cases rr
      cases ra
      cases rb
      obtain ⟨u1, _, hu⟩ := sqX_vals I1 sx
      obtain ⟨u2, _, hv⟩ := sqX_vals I1 sy
      have la := holdX_lt hu
      have lb := holdX_lt hv
      refine zip_begins2 (beginX k a u1.toArray) (beginX l b u2.toArray) hu hv fun g g0 g1 g2 g3 g4 gs gk => wpAny_pyIter_zip g0 ?_
      refine ⟨_, [s1.heap.objs.size + 4, s1.heap.objs.size + 2, s1.heap.objs.size + 3, s1.heap.objs.size, s1.heap.objs.size + 1], _, _, H1, rfl, I1.kept (t' := s1.toks) gk,
        turn_zipX (zip_sep2 (N := s1.heap.objs.size) (fp1 := [a]) (fp2 := [b]) (fun c hc => by rw [List.mem_singleton.mp hc]; exact la) (fun c hc => by rw [List.mem_singleton.mp hc]; exact lb)) (Nat.ne_of_lt la) (Nat.ne_of_lt (Nat.lt_succ_of_lt lb)),
        ⟨g0, g1, ⟨_, _, g2⟩, iterX_of g3, iterX_of g4⟩, fun c hc => ?_, q⟩
      have le : s1.heap.objs.size ≤ c := by
        simp only [List.mem_cons, List.not_mem_nil, or_false] at hc
        rcases hc with e | e | e | e | e <;> rw [e]
        · exact Nat.le_add_right _ _
        · exact Nat.le_add_right _ _
        · exact Nat.le_add_right _ _
        · exact Nat.le_refl _
        · exact Nat.le_add_right _ _
      exact I1.fpOk le (I1.hok.fresh le)
/-! #### enumerate -/
def ItnX (K : PySem.W.Frag) (k : Bool) (a : Addr) : It :=
  ⟨fun i H => ∃ (xs : List V) (x : V), SqX k K H a xs ∧ xs[i]? = some x,
   fun i H v H' => ∃ T x, v = .ref T ∧ H T = none ∧ H' = upd H T (.tup [.int (i : Nat), x]) ∧ (∀ xs, SqX k K H a xs → xs[i]? = some x),
   fun i H => ∃ xs : List V, SqX k K H a xs ∧ i = xs.length⟩
theorem turn_enumX {elts : List Expr} {kk : Nat} {tpos : Pos} {k : Bool} {a e it : Addr} (ne : e ≠ it) (na : a ≠ it) (nea : e ≠ a) :
    Turn prog w K (.Tuple elts kk tpos) (ItnX K k a) [e, it] e (fun i h => (∃ old, IsEnum h e it ((i : Nat) : Int) old) ∧ IterX k h it a i) where
  mem := List.mem_cons_self ..
  obj := fun i h st c hc => by
    obtain ⟨⟨old, q0⟩, q1⟩ := st
    simp only [List.mem_cons, List.not_mem_nil, or_false] at hc
    rcases hc with z | z <;> subst z
    · exact ⟨_, q0, fun v z => nomatch z⟩
    · exact iterX_get q1
  keep := fun i h h' st kp => by
    obtain ⟨⟨old, q0⟩, q1⟩ := st
    exact ⟨⟨old, kp _ (by simp) _ q0⟩, iterX_at q1 fun o z => kp _ (by simp) o z⟩
  item := by
    rintro X rfl rfl rfl calm i pins s σ H E I fp ⟨⟨old, q0⟩, q1⟩ ⟨xs, x, sx, ex⟩
    have hd0 : X.A.in1.handled = none := I.ok.hd calm
    obtain ⟨us, ru, hu⟩ := sqX_vals I sx
    obtain ⟨u, eu, xu⟩ := ru.get ex
    have l1 : i < us.toArray.size := by have := (List.getElem?_eq_some_iff.mp eu).1; simpa using this
    have el : e < s.heap.objs.size := Heap.lt_size q0
    refine wpAny_pyNext_enum_itemC (drawX k hd0 na us.toArray) q0 ⟨q1, hu⟩ l1 ne (by simp [ne, nea]) fun u' g tk pu z0 z1 zT zs zk => ?_
    obtain rfl : u = u' := by have q : us[i]? = some u' := by simpa using pu
                              rw [eu] at q; exact Option.some.inj q
    refine ⟨_, rfl, wpAny_letOwnedTupleGo_enum (s := { s with heap := g, toks := tk + 1 }) z0 fun g2 w0 sb => ?_⟩
    have stay : ∀ c o, c ∉ [e, it] → s.heap.get? c = some o → g2.get? c = some o := fun c o hc q => by
      simp only [List.mem_cons, List.not_mem_nil, or_false, not_or] at hc
      exact (sb.2 c hc.1).trans (zk c o hc.1 hc.2 q)
    have new : ObjOk X.prog X.w (upd H s.heap.objs.size (.tup [.int (i : Nat), x])) g2 s.heap.objs.size (.tup [.int (i : Nat), x]) :=
      ⟨show 2 ≤ sizeLine by decide, [.int i tk, u], .cons ⟨_, rfl⟩ (.cons xu .nil), ⟨_, (sb.2 _ (Nat.ne_of_gt el)).trans zT, rfl, _, rfl⟩⟩
    refine ⟨.ref s.heap.objs.size, _, I.turnedNew stay fp (Nat.le_refl _) new, rfl, ⟨_, x, rfl, I.hok.fresh (Nat.le_refl _), rfl, fun m hm => by rw [sqX_inj I hm sx]; exact ex⟩,
      ⟨⟨u, ?_⟩, iterX_at z1.1 fun o q => (sb.2 _ ne.symm).trans q⟩, fun c hc => ?_⟩
    · have e1 : ((i + 1 : Nat) : Int) = (i : Int) + 1 := by omega
      rw [e1]; exact w0
    · have lt : c < s.heap.objs.size := by
        simp only [List.mem_cons, List.not_mem_nil, or_false] at hc
        rcases hc with z | z <;> subst z
        · exact el
        · obtain ⟨_, q, _⟩ := iterX_get q1; exact Heap.lt_size q
      rw [upd_ne (Nat.ne_of_lt lt)]
      exact (fp c hc).1
  done := by
    rintro X rfl rfl rfl calm i pins s σ H E I fp ⟨⟨old, q0⟩, q1⟩ ⟨xs, sx, he⟩
    have hd0 : X.A.in1.handled = none := I.ok.hd calm
    obtain ⟨us, ru, hu⟩ := sqX_vals I sx
    have n1 := ru.length
    have en : i = us.toArray.size := by simp; omega
    refine wpAny_pyNext_enum_endD (drawX k hd0 na us.toArray) q0 (by rw [← en]; exact ⟨q1, hu⟩) fun g zk => ⟨rfl, I.turnedL (t' := s.toks) (ch := [e, it]) (fun c o hc q => ?_) fp⟩
    simp only [List.mem_cons, List.not_mem_nil, or_false, not_or] at hc
    exact zk c o hc.2 q
  self := fun A i s Q E st h => by
    obtain ⟨⟨old, q0⟩, _⟩ := st
    exact wpAny_pyIter_enum q0 h
end
section
/-- enumerate of one argument, a tuple: its two new cells -/
theorem meets_enum_tup (l : Addr) (items : Array Value) (n : Nat) (dct : Option Addr) (sl : Array (Option Value)) :
    Meets (Builtin.«enumerate.__new__» ⟨[.type "enumerate", .ref l], []⟩) (fun _ R s => s.heap.get? l = some { cls := .type "tuple", dict := dct, data := .seq items n, slots := sl } ∧
      R (.ok (.ret (.ref (s.heap.push (mkIt true l)).objs.size))) { s with heap := (s.heap.push (mkIt true l)).push { cls := .type "enumerate", data := .fields #[.none, .bool false, .ref s.heap.objs.size, rawInt 0, .none, .none] } }) :=
  .of_wp fun prog w A R s h => by
    obtain ⟨hp, g, d, tk, os⟩ := s
    obtain ⟨look, h⟩ := h
    have tup : Heap.IsTuple (Shared.heap ⟨hp, g, d, tk, os⟩) l items := ⟨_, look, rfl, n, rfl⟩
    have sub0 := sub_enumerate
    wp_walk using AutoSeq1.wpAny_loadPart' look
    refine wpAny_stack_any fun st => wpAny_pure ?_
    split
    · rename_i c _ _ _ _ _
      cases (c == Value.type "enumerate") <;> (wp_walk using AutoSeq1.wpAny_loadPart' look, wpAny_pyIter_tuple tup) <;> exact ⟨_, rfl, h⟩
    · wp_walk using AutoSeq1.wpAny_loadPart' look, wpAny_pyIter_tuple tup
      exact ⟨_, rfl, h⟩
variable {prog : Program} {w : World} {A : Around} {E : Value → Shared → Prop} {s : Shared} {X : Cx}
theorem call_enumX {k : Bool} {a : Addr} {items : Array Value} {Q : Value → Shared → Prop} (hold : HoldX k s.heap a items)
    (h : ∀ g, IsEnum g (s.heap.objs.size + 1) s.heap.objs.size 0 .none → IterX k g s.heap.objs.size a 0 → (∀ c o, s.heap.get? c = some o → g.get? c = some o) → Q (.ref (s.heap.objs.size + 1)) { s with heap := g }) :
    wpAny (model prog w) A (call (.type "enumerate") [.ref a]) Q E s := by
  cases k
  · exact call_enumerate_list hold fun g z0 z1 _ zk => h g z0 z1 zk
  · obtain ⟨⟨c, dct, dt, sl⟩, look, hc, n, hd⟩ := hold
    replace hc : c = .type "tuple" := hc
    replace hd : dt = .seq items n := hd
    subst hc hd
    refine callType_new F.called_enumerate (by decide) (F.typeCall_enumerate_1 _) (F.newCall_enumerate_1 _) (fun obj => F.args_object_init_2 obj _) F.entry_enumerate_new (meets_enum_tup a items n dct sl) ⟨look, ?_⟩
    have sz : (s.heap.push (mkIt true a)).objs.size = s.heap.objs.size + 1 := Heap.size_push ..
    show _ ∧ _
    rw [sz]
    have z0 : IsEnum ((s.heap.push (mkIt true a)).push { cls := .type "enumerate", data := .fields #[.none, .bool false, .ref s.heap.objs.size, rawInt 0, .none, .none] }) (s.heap.objs.size + 1) s.heap.objs.size 0 .none := by
      have := Heap.get?_push_size (s.heap.push (mkIt true a)) (o := { cls := .type "enumerate", data := .fields #[.none, .bool false, .ref s.heap.objs.size, rawInt 0, .none, .none] }) rfl
      rw [sz] at this
      exact this
    exact ⟨⟨_, z0, rfl⟩, h _ z0 (iterX_of (k := true) (Heap.get?_push_of_some _ (Heap.get?_push_size _ rfl))) fun c o q => Heap.get?_push_of_some _ (Heap.get?_push_of_some _ q)⟩
def iEnumX (K : PySem.W.Frag) (ta : TA) : TI := fun σ H R => ta σ H fun vs H1 => ∃ k a xs, vs = [.ref a] ∧ SqX k K H1 a xs ∧ R (ItnX K k a) H1
theorem pi_enumX {e : Expr} {ta : TA} {p pos tpos : Pos} {elts : List Expr} {kk : Nat} (hg : Gl X "enumerate") (hm : X.mg "enumerate" = none) (ha : PA X [e] ta) (hs : starEach [e] X.env = [(false, eval e X.env)] := by rfl) :
    PI X (.Tuple elts kk tpos) (.Call (.Name "enumerate" p) [e] [] pos) (iEnumX X.K ta) := by
  refine ⟨fun pins s σ H R I h => Call_ (ld_blt I hg hm boot_enumerate (PyProof.Rows.callWith_type1 (thn (ha.run pos pins s σ H _ I h) fun us s1 ⟨vs, H1, I1, r1, q1⟩ => ?_) hs rfl))⟩
  obtain ⟨k, a, xs, rfl, sx, q⟩ := q1
  cases r1 with
  | cons ra rr =>
    cases rr
    cases ra
    obtain ⟨u1, _, hu⟩ := sqX_vals I1 sx
    have la := holdX_lt hu
    refine call_enumX hu fun g z0 z1 gk => wpAny_pyIter_enum z0 ?_
    refine ⟨_, [s1.heap.objs.size + 1, s1.heap.objs.size], _, _, H1, rfl, I1.kept (t' := s1.toks) gk, turn_enumX (k := k) (Nat.succ_ne_self _) (Nat.ne_of_lt la) (Nat.ne_of_gt (Nat.lt_succ_of_lt la)), ⟨⟨_, z0⟩, z1⟩, fun c hc => ?_, q⟩
    have le : s1.heap.objs.size ≤ c := by
      simp only [List.mem_cons, List.not_mem_nil, or_false] at hc
      rcases hc with z | z <;> rw [z]
      · exact Nat.le_add_right _ _
      · exact Nat.le_refl _
    exact I1.fpOk le (I1.hok.fresh le)
end
/-! #### the walks over trees -/
section
variable {K : PySem.W.Frag} {G : Gt} {W : WX} {X : Cx} {p : Fm} {H1 : Hp} {tA : TA} {fA : Loc → M (List D)}
def seqD : D → Option (List D)
  | .lst xs => some xs
  | .tup xs => some xs
  | _ => none
theorem seqD_rep {H : Hp} {d : D} {ds : List D} {v : V} (e : seqD d = some ds) (r : Rep G p H d v) : ∃ k a vs, v = .ref a ∧ ¬ p.out a ∧ H a = some (if k = true then .tup vs else .lst vs) ∧ RepL G p H ds vs := by
  cases d <;> cases e
  · obtain ⟨a, vs, e, h0, h1, rs⟩ := r
    exact ⟨false, a, vs, e, h0, h1, rs⟩
  · obtain ⟨a, vs, e, h0, h1, rs⟩ := r
    exact ⟨true, a, vs, e, h0, h1, rs⟩
theorem sqX_of {H : Hp} {k : Bool} {a : Addr} {vs : List V} (h : H a = some (if k = true then .tup vs else .lst vs)) : SqX k K H a vs := by
  cases k
  · exact SqL.of h
  · exact SqT.of h
/-- a tree of the walked things, in whatever frame the walk is looked at -/
theorem seq_later {q : Fm} {H : Hp} {s : Pen} {k : Bool} {a : Addr} {vs : List V} {ds : List D} (wd : Wider p q H1) (kp : Keep p H1 H) (h0 : ¬ p.out a) (h1 : H1 a = some (if k = true then .tup vs else .lst vs)) (rs : RepL G p H1 ds vs) :
    H a = some (if k = true then .tup vs else .lst vs) ∧ RepL G q H ds vs :=
  ⟨kp _ _ (Fm.no h0) h1, repL_keep (p := q) trivial (fun a o n e => kp a o (fun z => n ((Fm.mut_eq wd.1 wd.2.1).mpr z)) e) _ _ (repL_out wd.1 wd.2.1 wd.2.2 _ _ rs)⟩
def pairUp (xs ys : List D) : List D := List.zipWith (fun x y => .tup [x, y]) xs ys
theorem iter_zipX {k l : Bool} {a b : Addr} {us vs : List V} {ds es : List D} (h0 : ¬ p.out a) (h1 : H1 a = some (if k = true then .tup us else .lst us)) (r1 : RepL G p H1 ds us) (h2 : ¬ p.out b) (h3 : H1 b = some (if l = true then .tup vs else .lst vs)) (r2 : RepL G p H1 es vs) :
    IterOk G p H1 (pairUp ds es) (ItzX K k l a b) := by
  intro q H s wd kp pk
  obtain ⟨a1, q1⟩ := seq_later (s := s) wd kp h0 h1 r1
  obtain ⟨b1, q2⟩ := seq_later (s := s) wd kp h2 h3 r2
  have n1 := repL_len q1
  have n2 := repL_len q2
  refine ⟨fun i d e => ?_, ⟨us, vs, sqX_of a1, sqX_of b1, ?_, ?_, ?_⟩⟩
  · unfold pairUp at e
    rw [List.getElem?_zipWith] at e
    cases ex : ds[i]? with
    | none => rw [ex] at e; cases e
    | some x =>
      cases ey : es[i]? with
      | none => rw [ex, ey] at e; cases e
      | some y =>
        rw [ex, ey] at e
        obtain rfl : D.tup [x, y] = d := Option.some.inj e
        obtain ⟨u, eu, ru⟩ := repL_get q1 ex
        obtain ⟨v, ev, rv⟩ := repL_get q2 ey
        refine ⟨⟨us, vs, u, v, sqX_of a1, sqX_of b1, eu, ev⟩, fun z H' yl => ?_⟩
        obtain ⟨T, u', v', rfl, hT, rfl, f1, f2⟩ := yl
        obtain rfl : u = u' := Option.some.inj (eu.symm.trans (f1 us (sqX_of a1)))
        obtain rfl : v = v' := Option.some.inj (ev.symm.trans (f2 vs (sqX_of b1)))
        have kk : Keep q H (upd H T (.tup [u, v])) := Keep.new hT
        exact ⟨kk, pk.new hT, T, _, rfl, pk.free hT, upd_same, u, _, rfl, rep_keep pk.at kk _ _ ru, v, _, rfl, rep_keep pk.at kk _ _ rv, rfl⟩
  · unfold pairUp; rw [List.length_zipWith]; omega
  · unfold pairUp; rw [List.length_zipWith]; omega
  · unfold pairUp; rw [List.length_zipWith]; omega
def numUp (n : Nat) : List D → List D
  | [] => []
  | x :: xs => .tup [.int (n : Nat), x] :: numUp (n + 1) xs
theorem numUp_len : ∀ (n : Nat) (xs : List D), (numUp n xs).length = xs.length
  | _, [] => rfl
  | n, x :: xs => by show (numUp (n + 1) xs).length + 1 = _; rw [numUp_len]; rfl
theorem numUp_get : ∀ (n : Nat) (xs : List D) (i : Nat), (numUp n xs)[i]? = xs[i]?.map fun x => .tup [.int ((n + i : Nat) : Int), x]
  | _, [], i => by simp [numUp]
  | n, x :: xs, 0 => by simp [numUp]
  | n, x :: xs, i + 1 => by
    have h := numUp_get (n + 1) xs i
    simp only [numUp, List.getElem?_cons_succ]
    rw [h, show n + 1 + i = n + (i + 1) by omega]
theorem iter_enumX {k : Bool} {a : Addr} {us : List V} {ds : List D} (h0 : ¬ p.out a) (h1 : H1 a = some (if k = true then .tup us else .lst us)) (r1 : RepL G p H1 ds us) : IterOk G p H1 (numUp 0 ds) (ItnX K k a) := by
  intro q H s wd kp pk
  obtain ⟨a1, q1⟩ := seq_later (s := s) wd kp h0 h1 r1
  have n1 := repL_len q1
  refine ⟨fun i d e => ?_, ⟨us, sqX_of a1, by rw [numUp_len]; exact n1⟩⟩
  rw [numUp_get] at e
  cases ex : ds[i]? with
  | none => rw [ex] at e; cases e
  | some x =>
    rw [ex] at e
    obtain rfl : D.tup [.int ((0 + i : Nat) : Int), x] = d := Option.some.inj e
    obtain ⟨u, eu, ru⟩ := repL_get q1 ex
    refine ⟨⟨us, u, sqX_of a1, eu⟩, fun z H' yl => ?_⟩
    obtain ⟨T, u', rfl, hT, rfl, f1⟩ := yl
    obtain rfl : u = u' := Option.some.inj (eu.symm.trans (f1 us (sqX_of a1)))
    have kk : Keep q H (upd H T (.tup [.int (i : Nat), u])) := Keep.new hT
    exact ⟨kk, pk.new hT, T, _, rfl, pk.free hT, upd_same, .int (i : Nat), _, rfl, by rw [Nat.zero_add]; rfl, u, _, rfl, rep_keep pk.at kk _ _ ru, rfl⟩
def zipD (ds : List D) : M (List D) := match ds with
  | [x, y] => (match seqD x with
    | some xs => (match seqD y with
      | some ys => mret (pairUp xs ys)
      | none => mbad)
    | none => mbad)
  | _ => mbad
def enumD (ds : List D) : M (List D) := match ds with
  | [x] => (match seqD x with
    | some xs => mret (numUp 0 xs)
    | none => mbad)
  | _ => mbad
def iZ (fA : Loc → M (List D)) : Loc → M (List D) := fun ρ => mbind (fA ρ) zipD
def iN (fA : Loc → M (List D)) : Loc → M (List D) := fun ρ => mbind (fA ρ) enumD
theorem i_zip {e e2 : Expr} {p0 pos tpos : Pos} {elts : List Expr} {kk : Nat} (hK : X.K = K) (hm : X.mg "zip" = none) (ha : DA G X W [e, e2] tA fA) (hg : Gl X "zip" := by rfl)
    (hs : starEach [e, e2] X.env = (false, eval e X.env) :: starEach [e2] X.env := by rfl) (hpl : (backTo pos (starEach [e2] X.env)).any (·.1) = false := by rfl) :
    DI G X W (.Tuple elts kk tpos) (.Call (.Name "zip" p0) [e, e2] [] pos) (iZipX K tA) (iZ fA) := by
  subst hK
  refine ⟨pi_zipX hg hm ha.pa hs hpl, fun p σ H ρ s Q en pk fin => ?_⟩
  refine ha.run p σ H ρ s _ en pk (fin.step fun ds s1 vs H1 k1 pk1 rs fin1 => ?_)
  unfold zipD at fin1
  split at fin1
  · rename_i x y
    obtain ⟨v, _, rfl, rx, w, _, rfl, ry, hz⟩ := rs
    obtain rfl := hz
    cases ex : seqD x with
    | none => rw [ex] at fin1; exact fin1.elim
    | some xs =>
      rw [ex] at fin1
      dsimp only at fin1
      cases ey : seqD y with
      | none => rw [ey] at fin1; exact fin1.elim
      | some ys =>
        rw [ey] at fin1
        obtain ⟨k, a, us, rfl, h0, h1, r1⟩ := seqD_rep ex rx
        obtain ⟨l, b, vs, rfl, h2, h3, r2⟩ := seqD_rep ey ry
        exact ⟨k, l, a, b, us, vs, rfl, sqX_of h1, sqX_of h3, fin1 _ H1 Keep.refl pk1 (iter_zipX h0 h1 r1 h2 h3 r2)⟩
  · exact fin1.elim
theorem i_enum {e : Expr} {p0 pos tpos : Pos} {elts : List Expr} {kk : Nat} (hK : X.K = K) (hm : X.mg "enumerate" = none) (ha : DA G X W [e] tA fA) (hg : Gl X "enumerate" := by rfl) (hs : starEach [e] X.env = [(false, eval e X.env)] := by rfl) :
    DI G X W (.Tuple elts kk tpos) (.Call (.Name "enumerate" p0) [e] [] pos) (iEnumX K tA) (iN fA) := by
  subst hK
  refine ⟨pi_enumX hg hm ha.pa hs, fun p σ H ρ s Q en pk fin => ?_⟩
  refine ha.run p σ H ρ s _ en pk (fin.step fun ds s1 vs H1 k1 pk1 rs fin1 => ?_)
  unfold enumD at fin1
  split at fin1
  · rename_i x
    obtain ⟨v, _, rfl, rx, hz⟩ := rs
    obtain rfl := hz
    cases ex : seqD x with
    | none => rw [ex] at fin1; exact fin1.elim
    | some xs =>
      rw [ex] at fin1
      obtain ⟨k, a, us, rfl, h0, h1, r1⟩ := seqD_rep ex rx
      exact ⟨k, a, us, rfl, sqX_of h1, fin1 _ H1 Keep.refl pk1 (iter_enumX h0 h1 r1)⟩
  · exact fin1.elim
end
end Tw

set_option Elab.async false
set_option linter.all false
set_option maxRecDepth 100000
set_option maxHeartbeats 4000000
set_option autoImplicit false
/-! ### defs that ask what is under way (repr): they are run where no guard is known -/
namespace Tw
open PySem L2 PySem.Spec PyProof.Rows
/-- a promise kept where no repr is under way -/
structure FnG (P : Program) (w : World) (K : PySem.W.Frag) (mg : Str → Option Value) (base : Heap) (CX : CXT) (k : Nat) (f : Addr) (fd : FuncData) (ps : List Str) (sp : Sp) : Prop where
  len : ∀ vs H Q E, sp vs H Q E → vs.length = ps.length
  run : ∀ (A : Around), A.guards = some [] → ∀ (outer : List Env) (s : Shared) (H : Hp) (args : Args) (us : List Value) (vs : List V) (Q : VK) (E : XK),
    Room k A → Env0 P w K mg base A outer s H → BindsTo s fd args (ps.zip us) → Vals vs us → sp vs H Q E → codeAny (model P w) A (.call (.ref f) args) (CR CX outer P w H s Q E) s
section
variable {P : Program} {w : World} {K : PySem.W.Frag} {mg : Str → Option Value} {base : Heap} {CX : CXT} {f : Addr} {fd : FuncData} {ps : List Str} {sp : Sp} {k : Nat}
theorem FnG.of (F : FnOk P w K mg base CX k f fd ps sp) : FnG P w K mg base CX k f fd ps sp := ⟨F.len, fun A _ => F.run A⟩
theorem FnG.mono {j : Nat} (F : FnG P w K mg base CX j f fd ps sp) (h : j ≤ k) : FnG P w K mg base CX k f fd ps sp := ⟨F.len, fun A hg outer s H args us vs Q E hr => F.run A hg outer s H args us vs Q E (hr.mono h)⟩
/-- a def's body, walked where no guard is known -/
theorem fng_of {x qual : Str} {params : Arguments} {body : List Stmt} {scope : Scope} {dvs : List V} {kws : List (Str × V)} {N : List Str} (F : FunD K x qual params body scope dvs kws f fd) (S : FnScope N ps scope) (len : ∀ vs H Q E, sp vs H Q E → vs.length = ps.length)
    (walk : ∀ (cdv : Value) (A : Around) (outer : List Env) (s : Shared) (H : Hp) (vs : List V) (Q : VK) (E : XK), A.guards = some [] → Room k (A.deeper (envOfC qual scope s.heap.objs.size f cdv)) → sp vs H Q E →
      ∃ t, PSs (cxOf CX P w K mg base N qual scope f cdv A outer s H E) body t ∧ t { nx := fun _ H' => Q .non H', rt := Q } (L2.start N vs) H) : FnG P w K mg base CX (k + 1) f fd ps sp := by
  obtain ⟨oc, od, dV, kV, doc, pm, an, cdv, ct, osl, rfl, lk, hcd, _, _⟩ := F.ex
  refine ⟨len, fun A hgd outer s H args us vs Q E room e0 bd rv wish => ?_⟩
  have Kin : K.In s.heap := e0.mod.kin.keeps fun b o z => (e0.bs b o z).1
  have local' : ∀ y ∈ ps.zip us, scope.names.lookup y.1 = some .local ∨ (scope.names.lookup y.1 = some .cell ∧ ((cellsFrom (s.heap.objs.size + 1) scope.names []).lookup y.1).isSome = true) := by
    rintro ⟨n, v⟩ hy
    exact (S.par n (List.of_mem_zip hy).1).imp id fun q => ⟨q, PySem.W.cellsFrom_some _ _ _ (.inl q)⟩
  refine codeAny_call_function room.depth (Kin _ _ lk) rfl S.co S.gen rfl (PySem.W.codeRec_of Kin hcd) (bd _ _ _ _ ?_)
  refine wpAny_newFunctionEnv_cells S.kind local' fun env he s1 x => ?_
  subst he
  refine ⟨(e0.mod.nolimit.keeps fun b o z => (e0.bs b o z).1).keeps x.toInCall.keep, codeAny_func ?_⟩
  obtain ⟨t, ht, hq⟩ := walk cdv A outer s H vs Q E hgd (room.deeper _) wish
  refine wpAny_mono (ht.run [] s1 (L2.start N vs) H _ (inv_start S room.hd e0 (len _ _ _ _ wish) rv x) hq) (fun fl s' hs => ?_) fun e s' hs => hs
  cases fl with
  | ret u => obtain ⟨v, σ', H', J, rv', q⟩ := hs; exact ⟨v, H', J.os, J.bare, J.base, J.hok, rv', q⟩
  | next => obtain ⟨σ', H', J, q⟩ := hs; exact ⟨V.non, H', J.os, J.bare, J.base, J.hok, rfl, q⟩
  | brk => obtain ⟨_, _, _, q⟩ := hs; exact False.elim q
  | cont => obtain ⟨_, _, _, q⟩ := hs; exact False.elim q
end
section
variable {P : Program} {w : World} {K : PySem.W.Frag} {G : Gt} {mg : Str → Option Value} {base : Heap}
theorem ok_fdG {x qual : Str} {st : Stmt} {f : Addr} {fd : FuncData} {N ps : List Str} {k n : Nat} {b : MS} {dvs : List V} (F : FunD K x qual (defArgs st) (defBody st) (defScope st) dvs [] f fd) (S : FnScope N ps (defScope st)) (hn : ps.length = n)
    (hb : ∀ (cdv : Value) (A : Around) (outer : List Env) (s : Shared) (H : Hp) (E : XK), A.guards = some [] → Room k (A.deeper (envOfC qual (defScope st) s.heap.objs.size f cdv)) →
      ∃ t, DSs G (cxOf (L2.CX P w) P w K mg base N qual (defScope st) f cdv A outer s H E) (fun c d _ H' => E c d H') (defBody st) t b) :
    FnG P w K mg base (L2.CX P w) (k + 1) f fd ps (spM G n (mdef N.length b)) := by
  refine fng_of F S (fun vs H Q E h => by rw [h.1, hn]) fun cdv A outer s H vs Q E hgd hr h => ?_
  obtain ⟨t, dt⟩ := hb cdv A outer s H E hgd hr
  obtain ⟨_, p, ds, s1, rs, pk, fin⟩ := h
  refine ⟨t, dt.ps, dt.run p _ H (startL N.length ds) s1 _ (env_start rs) pk ?_⟩
  unfold mdef at fin
  revert fin
  cases b (startL N.length ds) s1 with
  | nx ρ s' => exact fun fin σ' H' k pk' _ => fin _ H' k pk' rfl
  | ret d s' => exact fun fin v H' k pk' rd => fin v H' k pk' rd
  | exc c ns xs ρ s' => exact fun fin dd σ' H' k pk' _ x => fin dd H' k pk' x
  | bk ρ s' => exact False.elim
  | ct ρ s' => exact False.elim
  | bad => exact False.elim
end
section
variable {X : Cx} {CX : CXT} {k : Nat} {f : Addr} {fd : FuncData} {ps : List Str} {sp : Sp} {E : L2.St → XK} {x : Str} {p pos : Pos} {e : Expr} {es : List Expr} {t : TA} {G : Gt} {W : WX} {tA : TA} {fA : Loc → M (List D)}
theorem run_fnG {pins : List (Addr × Obj)} {σ : L2.St} {H : Hp} {s : Shared} {Q : VK} {us : List Value} {vs : List V} (F : FnG X.prog X.w X.K X.mg X.base CX k f fd ps sp) (gd : X.A.guards = some []) (hr : Room k X.A) (hb : L2.Binds X.K fd ps []) (hx : PassesAt CX X σ (E σ))
    (I : Inv X pins σ H s) (r : Vals vs us) (h : sp vs H Q (E σ)) : wpAny (model X.prog X.w) X.A (call (.ref f) us) (EP X pins σ Q) X.xe s := by
  have n : (us ++ []).length = ps.length := by rw [List.append_nil, ← r.length]; exact F.len _ _ _ _ h
  have bd := hb s us I.kIn n
  rw [List.append_nil] at bd
  refine wpAny_call (codeAny_mono (F.run X.A gd X.stack s H ⟨us, []⟩ us vs Q (E σ) hr I.env0 bd r h) fun q s' hq => ?_)
  cases q with
  | error er => exact hx pins H s er s' I hq
  | ok fl => cases fl <;> first | exact I.after hq | exact False.elim hq
theorem x_callGd {n : Nat} {m : List D → M D} (F : FnG X.prog X.w X.K X.mg X.base (L2.CX X.prog X.w) k f fd ps (spM G n m)) (gd : X.A.guards = some []) (hr : Room k X.A) (tk : Takes X W) (hm : X.mg x = some (.ref f)) (hk : PySem.W.keepIn X.K (.ref f) = true) (hb : L2.Binds X.K fd ps [])
    (ha : DA G X W (e :: es) tA fA) (hl : LenA fA n) (hg : Gl X x := by rfl) (hdb : (x == ("__debug__" : Str)) = false := by decide) (he : starEach (e :: es) X.env = (false, eval e X.env) :: starEach es X.env := by rfl) (hpl : (backTo pos (starEach es X.env)).any (·.1) = false := by rfl) :
    DE G X W (.Call (.Name x p) (e :: es) [] pos) (tCallS (spM G n m) (WE W) tA) (kCall m fA) := by
  refine ⟨⟨fun pins s σ H Q I h => ?_⟩, run_call ha.run hl⟩
  refine wpAny_Call_Name_kw (ld_glob I hg hm ?_ hdb)
  exact PySem.W.callWith_K (h₀ := X.base) I.ok.mod.kin hk (thn (ha.pa.run pos pins s σ H _ I h) fun us s1 ⟨vs, H1, I1, r, q⟩ => ⟨I1.kIn, run_fnG F gd hr hb (passAt tk σ) I1 r q⟩) he hpl
end
/-! #### the law's own call -/
section
variable {P : Program} {w : World} {K : PySem.W.Frag} {mg mb : Str → Option Value} {CX : CXT} {k : Nat} {fa a : Addr} {fd : FuncData} {x : Str} {sp : Sp} {s1 : Shared} {vs : List Value} {ns : List Int}
theorem law_goG (Kin : K.In s1.heap) (hn1 : s1.heap.Ns mainGlobals mg) (hn2 : s1.heap.Ns builtinsNs mb) (hbb : ∀ x : Str, x ≠ "__name__" → mb x = bootBuiltins x) (lim : s1.heap.NoLimit) (hg : s1.gens = #[])
    (ha : s1.heap.get? a = some { cls := .type "list", data := .seq vs.toArray }) (hr : Room k callerA)
    (F : ∀ base : Heap, K.In base → base.Ns mainGlobals mg → FnG P w K mg base CX k fa fd [x] sp) (bd : ∀ (s : Shared) (u : Value), BindsTo s fd ⟨[u], []⟩ [(x, u)])
    {H : Hp} (hO : Only H) (wish : sp [.ref a] H (fun v _ => v = .bl true) fun _ _ _ => False) (hok : HOk P w H s1.heap) (only : ∀ b u, H b = some u → b = a ∧ K.lookup a = none) (no : ∀ e s', CX [] H s1 (fun _ _ _ => False) e s' → False) :
    codeAny (model P w) callerA (.call (.ref fa) ⟨[.ref a], []⟩) (fun r s' => r = .ok (.ret (.bool true)) ∧ OldK s1.heap s'.heap ∧ s'.os = s1.os ∧ AllBare s'.gens) s1 := by
  have free : ∀ b, b ≠ a → H b = none := fun b ne => by
    cases q : H b with
    | none => rfl
    | some u => exact absurd (only b u q).1 ne
  have hid : ∀ {b : Addr} {m : Str → Option Value}, s1.heap.Ns b m → (hidT s1.heap H).Ns b m := fun {b m} ⟨o, es, ep, z, d, r⟩ => by
    refine ⟨o, es, ep, hidT_get z (free b fun q => ?_), d, r⟩
    rw [q, ha] at z
    cases z
    cases d
  have hidK : K.In (hidT s1.heap H) := fun b o z => by
    refine hidT_get (Kin b o z) ?_
    cases q : H b with
    | none => rfl
    | some u =>
      obtain ⟨e1, e2⟩ := only b u q
      rw [e1, e2] at z
      cases z
  obtain ⟨mc, lim1, lim2⟩ := lim
  have e0 : Env0 P w K mg (hidT s1.heap H) callerA [] s1 H :=
    { frames := rfl, mod := ⟨hidK, hid hn1, ⟨mb, hid hn2, hbb⟩, mc, hid lim1, lim2⟩, bs := fun b o z => of_hidT z, bsz := Nat.le_of_eq (hidT_size _ _), funs := trivial, frf := fun b hb => (List.not_mem_nil hb).elim, hok := hok, bare := .of_eq hg }
  refine codeAny_mono ((F _ hidK (hid hn1)).run callerA rfl [] s1 H ⟨[.ref a], []⟩ [.ref a] [.ref a] _ _ hr e0 (bd s1 (.ref a)) (.cons rfl .nil) wish) fun r s' h => ?_
  rcases r with er | fl
  · exact (no er s' h).elim
  · cases fl <;> first | exact False.elim h | skip
    rename_i u
    obtain ⟨v, H', z1, z2, un, ok2, z3, rfl⟩ := h
    obtain rfl : u = Value.bool true := z3
    refine ⟨rfl, OldK.of_keep fun b o z => ?_, z1, z2⟩
    cases q : H b with
    | none => exact un.keep b o z q (fun m => (List.not_mem_nil m).elim) (List.not_mem_nil)
    | some u =>
      rcases hO b with y | ⟨ob, xs, y⟩
      · rw [q] at y; cases y
      · obtain ⟨f1, _⟩ := hok b _ y
        rw [z] at f1
        cases f1
        exact (ok2 b _ (un.frzs b o _ y)).1
theorem law_callG (Kin : K.In s1.heap) (hn1 : s1.heap.Ns mainGlobals mg) (hn2 : s1.heap.Ns builtinsNs mb) (hbb : ∀ x : Str, x ≠ "__name__" → mb x = bootBuiltins x) (lim : s1.heap.NoLimit) (hg : s1.gens = #[])
    (ha : s1.heap.get? a = some { cls := .type "list", data := .seq vs.toArray }) (hi : IntsAre vs ns) (hl : ns.length ≤ sizeLine) (hr : Room k callerA)
    (F : ∀ base : Heap, K.In base → base.Ns mainGlobals mg → FnG P w K mg base CX k fa fd [x] sp) (bd : ∀ (s : Shared) (u : Value), BindsTo s fd ⟨[u], []⟩ [(x, u)])
    (hsp : ∀ H : Hp, Only H → SqL K H a (ns.map V.int) → sp [.ref a] H (fun v _ => v = .bl true) fun _ _ _ => False) (no : ∀ H e s', CX [] H s1 (fun _ _ _ => False) e s' → False) :
    codeAny (model P w) callerA (.call (.ref fa) ⟨[.ref a], []⟩) (fun r s' => r = .ok (.ret (.bool true)) ∧ OldK s1.heap s'.heap ∧ s'.os = s1.os ∧ AllBare s'.gens) s1 := by
  have rv := vals_ints hi
  cases hk : K.lookup a with
  | some o =>
    have z := Kin a o hk
    rw [ha] at z
    cases z
    have hO : Only fun _ => none := fun _ => .inl rfl
    have hS : SqL K (fun _ => none) a (ns.map V.int) := .inr ⟨_, vs.toArray, _, hk, rfl, rfl, rfl, by rw [List.size_toArray, hi.length]; exact hl, by simpa using rv⟩
    exact law_goG Kin hn1 hn2 hbb lim hg ha hr F bd hO (hsp _ hO hS) (fun b u z => nomatch z) (fun b u z => nomatch z) (no _)
  | none =>
    let H : Hp := fun b => if b = a then some (.frz { cls := .type "list", data := .seq vs.toArray } (.lst (ns.map V.int))) else none
    have at1 : H a = some (.frz { cls := .type "list", data := .seq vs.toArray } (.lst (ns.map V.int))) := if_pos rfl
    have off : ∀ b, b ≠ a → H b = none := fun b z => if_neg z
    have one : ∀ b u, H b = some u → b = a := fun b u z => Classical.byContradiction fun ne => by rw [off b ne] at z; cases z
    have hO : Only H := fun b => by
      by_cases z : b = a
      · rw [z]; exact .inr ⟨_, _, at1⟩
      · exact .inl (off b z)
    refine law_goG Kin hn1 hn2 hbb lim hg ha hr F bd hO (hsp H hO (.inl (.inr ⟨_, at1⟩))) (fun b u z => ?_) (fun b u z => ⟨one b u z, hk⟩) (no H)
    obtain rfl := one b u z
    rw [at1] at z
    cases z
    exact ⟨ha, by rw [List.length_map]; exact hl, vs, _, rv, ha⟩
theorem walk_ofG {l : PySem.W.OpenLaw} {n : Nat} {q : Program} {loose : List Str} {XP : (Str → Option Value) → Heap → Prop} {YP : World → Heap → Prop} {d : DefRec} {Kw : Params → PySem.W.Frag} {CX : World → CXT} {sp : World → Sp}
    (hn : l.most = some n) (hn2 : n ≤ sizeLine) (hdf : d.params.defaults = []) (hr : Room k callerA) (hY : ∀ (w : World) (h : Heap), YP w h → (Kw w.params).In h)
    (F : ∀ (w : World) (mg : Str → Option Value) (fa : Addr) (h : Heap), (Kw w.params).In h → h.Ns mainGlobals mg → mg d.name = some (.ref fa) →
      ∃ fd : FuncData, (∀ (s : Shared) (u : Value), BindsTo s fd ⟨[u], []⟩ [(x, u)]) ∧ ∀ base : Heap, (Kw w.params).In base → base.Ns mainGlobals mg → FnG l.prog w (Kw w.params) mg base (CX w) k fa fd [x] (sp w))
    (hsp : ∀ (w : World) (H : Hp) (a : Addr) (ns : List Int), ns.length ≤ n → Only H → SqL (Kw w.params) H a (ns.map V.int) → sp w [.ref a] H (fun v _ => v = .bl true) fun _ _ _ => False)
    (hCX : ∀ (w : World) (H : Hp) (s : Shared) (e : Value) (s' : Shared), CX w [] H s (fun _ _ _ => False) e s' → False) : PySem.W.WalkO q loose XP YP l.row.toRowW d [] (fun f vs => PySem.call f vs) := by
  refine Att.attach_call hn hdf fun w s₀ s₁ mg mb fa o pm cd doc a vs ns gr Y ho hd hcd hmg hobj hints hlen hg => ?_
  obtain ⟨fd, hb, hF⟩ := F w mg fa _ (hY w _ Y) gr.T.g hmg
  exact law_callG (hY w _ Y) gr.T.g gr.T.b gr.T.builtins gr.T.nolimit hg hobj hints (Nat.le_trans hlen hn2) hr hF hb (fun H hO hS => hsp w H a ns hlen hO hS) fun H e s' => hCX w H s₁ e s'
end
end Tw

set_option Elab.async false
set_option linter.all false
set_option maxRecDepth 100000
set_option maxHeartbeats 4000000
set_option autoImplicit false
namespace Tw
open PySem L2 PySem.Spec PyProof.Rows
/-! ### repr of data -/
section
variable {K : PySem.W.Frag} {G : Gt} {W : WX} {X : Cx}
def rRepr (K : PySem.W.Frag) : List V → Hp → VK → Prop := fun xs H Q => ∃ v x, xs = [v] ∧ Dp K H v x ∧ x.showable = true ∧ x.hasDict = false ∧ x.depth ≤ 64 ∧ x.shown.length ≤ sizeLine ∧ Q (.str x.shown) H
theorem cr_repr (hK : X.K = K) (gd : X.A.guards = some []) (hu : X.A.units + 70 < cLine) : CallR X (.builtin "repr") (rRepr K) := by
  subst hK
  intro pins s σ H xs us Q I r h
  obtain ⟨v, x, rfl, dp, sh, nd, dep, sz, q⟩ := h
  cases r with
  | cons ru rr =>
    rename_i u us
    cases rr
    obtain ⟨as, rd⟩ := Dp.reads I x v u dp ru
    have isref : ∀ a : Addr, u = .ref a → wpAny (model X.prog X.w) X.A (call (.builtin "repr") [u]) (EP X pins σ Q) X.xe s := by
      rintro a rfl
      refine repr_of_reads' rd sh (fun z => by rw [nd] at z; cases z) gd (by omega) (fun _ _ z => z) (fun h' t tk hk => ?_) sz
      exact ⟨.str x.shown, H, I.kept (t' := tk) hk, ⟨t, rfl⟩, q⟩
    cases rd with
    | none => exact PySem.P.repr_of_none ⟨.str _, H, I.tok _, ⟨_, rfl⟩, q⟩
    | bool => exact PySem.P.repr_of_bool ⟨.str _, H, I.tok _, ⟨_, rfl⟩, q⟩
    | int => exact PySem.P.repr_of_int (of_decide_eq_true sh) ⟨.str _, H, I.tok _, ⟨_, rfl⟩, q⟩
    | str => exact PySem.P.repr_of_str ⟨.str _, H, I.tok _, ⟨_, rfl⟩, q⟩ (hsz := sz)
    | list => exact isref _ rfl
    | tuple => exact isref _ rfl
    | dict => exact isref _ rfl
mutual
/-- its repr is short -/
def shOk : D → Bool
  | .non => true
  | .bl _ => true
  | .int i => decide (i.natAbs < 2 ^ 250)
  | .str x => decide (x.cps.size ≤ 1000) && x.cps.toList.all fun c => decide (c < 16 ^ 8)
  | .lst xs => shOkL xs
  | .tup xs => shOkL xs
  | _ => false
def shOkL : List D → Bool
  | [] => true
  | d :: ds => shOk d && shOkL ds
end
mutual
def wgh : D → Nat
  | .str x => x.cps.size
  | .lst xs => wghL xs
  | .tup xs => wghL xs
  | _ => 0
def wghL : List D → Nat
  | [] => 0
  | d :: ds => wgh d + 1 + wghL ds
end
mutual
def dpt : D → Nat
  | .lst xs => dptL xs + 1
  | .tup xs => dptL xs + 1
  | _ => 0
def dptL : List D → Nat
  | [] => 0
  | d :: ds => max (dpt d) (dptL ds)
end
def reprT (d : D) : Str := match toP d with
  | some x => x.shown
  | none => "None"
theorem log2_small {i : Int} (h : i.natAbs < 2 ^ 250) : i.natAbs.log2 < 250 := by
  by_cases z : i.natAbs = 0
  · rw [z]; decide
  · exact (Nat.log2_lt z).mpr h
mutual
theorem shOk_ok : ∀ (d : D), shOk d = true → ∃ x, toP d = some x ∧ x.showable = true ∧ x.hasDict = false ∧ x.leavesShort 2000 = true ∧ x.bulk = wgh d ∧ x.depth = dpt d
  | .non, _ => ⟨_, rfl, rfl, rfl, rfl, rfl, rfl⟩
  | .bl _, _ => ⟨_, rfl, rfl, rfl, rfl, rfl, rfl⟩
  | .int i, h => by
    have h1 : i.natAbs.log2 < 250 := log2_small (of_decide_eq_true h)
    have h2 := int_text_length_le (k := 250) (by decide) h1
    refine ⟨_, rfl, decide_eq_true (by omega), rfl, decide_eq_true ?_, rfl, rfl⟩
    show (Str.ofString (toString i)).length ≤ 2000
    rw [PySem.ofString_length]; omega
  | .str x, h => by
    have h' : (decide (x.cps.size ≤ 1000) && x.cps.toList.all fun c => decide (c < 16 ^ 8)) = true := h
    rw [Bool.and_eq_true] at h'
    exact ⟨_, rfl, rfl, rfl, h'.2, rfl, rfl⟩
  | .lst xs, h => by
    obtain ⟨ys, e, a, b, c, d1, d2⟩ := shOkL_ok xs h
    exact ⟨.list ys, by show (toPL xs).map _ = _; rw [e]; rfl, a, b, c, d1, by show PyData.depthAll ys + 1 = dptL xs + 1; rw [d2]⟩
  | .tup xs, h => by
    obtain ⟨ys, e, a, b, c, d1, d2⟩ := shOkL_ok xs h
    exact ⟨.tuple ys, by show (toPL xs).map _ = _; rw [e]; rfl, a, b, c, d1, by show PyData.depthAll ys + 1 = dptL xs + 1; rw [d2]⟩
  | .ty _, h => by cases h
  | .cls _, h => by cases h
  | .ins _ _ _, h => by cases h
  | .err _ _ _, h => by cases h
  | .pen, h => by cases h
  | .bag, h => by cases h
  | .self, h => by cases h
theorem shOkL_ok : ∀ (ds : List D), shOkL ds = true → ∃ xs, toPL ds = some xs ∧ PyData.showableAll xs = true ∧ PyData.hasDictAll xs = false ∧ PyData.leavesShortAll 2000 xs = true ∧ PyData.bulkAll xs = wghL ds ∧ PyData.depthAll xs = dptL ds
  | [], _ => ⟨[], rfl, rfl, rfl, rfl, rfl, rfl⟩
  | d :: ds, h => by
    have h' : (shOk d && shOkL ds) = true := h
    rw [Bool.and_eq_true] at h'
    obtain ⟨x, e, a, b, c, d1, d2⟩ := shOk_ok d h'.1
    obtain ⟨xs, e', a', b', c', d1', d2'⟩ := shOkL_ok ds h'.2
    refine ⟨x :: xs, by unfold toPL; rw [e, e'], ?_, ?_, ?_, ?_, ?_⟩
    · show (x.showable && PyData.showableAll xs) = true; rw [a, a']; rfl
    · show (x.hasDict || PyData.hasDictAll xs) = false; rw [b, b']; rfl
    · show (x.leavesShort 2000 && PyData.leavesShortAll 2000 xs) = true; rw [c, c']; rfl
    · show x.bulk + 1 + PyData.bulkAll xs = wgh d + 1 + wghL ds; rw [d1, d1']
    · show max x.depth (PyData.depthAll xs) = max (dpt d) (dptL ds); rw [d2, d2']
end
def reprD (ds : List D) : M D := match ds with
  | [x] => if (shOk x && decide (wgh x ≤ 4000) && decide (dpt x ≤ 64)) = true then mret (.str (reprT x)) else mbad
  | _ => mbad
theorem prim_repr : PrimL G (rRepr K) reprD := by
  intro W p σ H s xs vs Q pk rs fin
  unfold reprD at fin
  split at fin
  · rename_i x
    split at fin
    · rename_i hx
      simp only [Bool.and_eq_true, decide_eq_true_eq] at hx
      obtain ⟨⟨h1, h2⟩, h3⟩ := hx
      obtain ⟨v, _, rfl, rx, hz⟩ := rs
      obtain rfl := hz
      obtain ⟨y, e, a, b, c, d1, d2⟩ := shOk_ok x h1
      have big := PyData.shown_le_bulk 2000 (by decide) y c
      have e2 : reprT x = y.shown := by unfold reprT; rw [e]
      refine ⟨v, y, rfl, dp_of x v y rx e, a, b, by omega, by rw [sizeLine_eq]; omega, ?_⟩
      rw [← e2]
      exact fin _ H Keep.refl pk rfl
    · exact False.elim fin
  · exact False.elim fin
/-! ### x in xs, x not in xs -/
def rInA (K : PySem.W.Frag) (neg : Bool) : R2 := fun x y H Q => ∃ (k : Bool) (d : PyData) (ds : List PyData), Dp K H x d ∧ Dp K H y (if k = true then .tuple ds else .list ds) ∧ SeqAt.shaped d = true ∧ SeqAt.shaped (.list ds) = true ∧ Q (.bl (neg ^^ ds.any fun z => PyData.eqv z d)) H
theorem shaped_tl {ds : List PyData} (h : SeqAt.shaped (.list ds) = true) : SeqAt.shaped (.tuple ds) = true := h
theorem op_inA (hK : X.K = K) (hu : X.A.units + 65 < cLine) : OpR X (compareOp .In) (rInA K false) := by
  subst hK
  intro pins s σ H x y v u Q I rx ry h
  obtain ⟨k, d, ds, hd, he, sd, se, q⟩ := h
  rw [Bool.false_xor] at q
  obtain ⟨as, r1⟩ := Dp.reads I d x v hd rx
  obtain ⟨bs, r2⟩ := Dp.reads I _ y u he ry
  cases k
  · exact SeqAt.in_list_reads r2 r1 (SeqAt.canLay_of_shaped se) (SeqAt.canLay_of_shaped sd) (room_in_shaped sd hu) ⟨.bl _, H, I, rfl, q⟩
  · exact SeqAt.in_tuple_reads r2 r1 (SeqAt.canLay_of_shaped (shaped_tl se)) (SeqAt.canLay_of_shaped sd) (room_in_shaped sd hu) ⟨.bl _, H, I, rfl, q⟩
theorem op_notInA (hK : X.K = K) (hu : X.A.units + 65 < cLine) : OpR X (compareOp .NotIn) (rInA K true) := by
  subst hK
  intro pins s σ H x y v u Q I rx ry h
  obtain ⟨k, d, ds, hd, he, sd, se, q⟩ := h
  rw [Bool.true_xor] at q
  obtain ⟨as, r1⟩ := Dp.reads I d x v hd rx
  obtain ⟨bs, r2⟩ := Dp.reads I _ y u he ry
  cases k
  · exact SeqAt.notIn_list_reads r2 r1 (SeqAt.canLay_of_shaped se) (SeqAt.canLay_of_shaped sd) (room_in_shaped sd hu) ⟨.bl _, H, I, rfl, q⟩
  · exact SeqAt.notIn_tuple_reads r2 r1 (SeqAt.canLay_of_shaped (shaped_tl se)) (SeqAt.canLay_of_shaped sd) (room_in_shaped sd hu) ⟨.bl _, H, I, rfl, q⟩
def inA (neg : Bool) (x y : D) : M D := match seqD y with
  | some ys => (match toP x with
    | some d => (match toPL ys with
      | some ds => if (SeqAt.shaped d && SeqAt.shaped (.list ds)) = true then mret (.bl (neg ^^ ds.any fun z => PyData.eqv z d)) else mbad
      | none => mbad)
    | none => mbad)
  | none => mbad
theorem prim_inA {neg : Bool} : Prim2 G (rInA K neg) (inA neg) := by
  intro W p σ H s x y vx vy Q pk rx ry fin
  unfold inA at fin
  cases ey : seqD y with
  | none => rw [ey] at fin; exact fin.elim
  | some ys =>
    rw [ey] at fin
    dsimp only at fin
    cases ex : toP x with
    | none => rw [ex] at fin; exact fin.elim
    | some d =>
      rw [ex] at fin
      dsimp only at fin
      cases es : toPL ys with
      | none => rw [es] at fin; exact fin.elim
      | some ds =>
        rw [es] at fin
        dsimp only at fin
        split at fin
        · rename_i hs
          rw [Bool.and_eq_true] at hs
          have fin' := fin _ H Keep.refl pk rfl
          have dx := dp_of (K := K) x vx d rx ex
          cases y <;> cases ey
          · refine ⟨false, d, ds, dx, ?_, hs.1, hs.2, fin'⟩
            exact dp_of (K := K) (.lst _) vy (.list ds) ry (by show (toPL _).map _ = _; rw [es]; rfl)
          · refine ⟨true, d, ds, dx, ?_, hs.1, hs.2, fin'⟩
            exact dp_of (K := K) (.tup _) vy (.tuple ds) ry (by show (toPL _).map _ = _; rw [es]; rfl)
        · exact fin.elim
end
end Tw

set_option Elab.async false
set_option linter.all false
set_option maxRecDepth 100000
set_option maxHeartbeats 4000000
set_option autoImplicit false
/-! ### own __len__, __getitem__, __iter__ -/
namespace Tw
open PySem L2 PySem.Spec PyProof.Rows
/-- an own special method -/
structure OwnM (K : PySem.W.Frag) (C : Addr) (m : Str) (g : Addr) (fd : FuncData) (ps : List Str) : Prop where
  at_ : PySem.W.findIn K (.ref C) m = some (some (.ref g))
  isf : PySem.W.isFn K (.ref g) = true
  fnin : PySem.W.fnIn K g = true
  b : L2.Binds K fd ps []
section
variable {K : PySem.W.Frag} {G : Gt} {W : WX} {X : Cx} {C g : Addr} {fd : FuncData} {ps : List Str} {k n : Nat} {sp : Sp} {md : List D → M D} {E : L2.St → XK}
variable {a b e : Expr} {ta tb te : TE} {fa fb fe : Loc → M D} {pos : Pos}
theorem run_in1S {pins : List (Addr × Obj)} {σ : L2.St} {H : Hp} {s : Shared} {Q : VK} {us : List Value} {vs : List V} (F : FnOk X.prog X.w X.K X.mg X.base (L2.CX X.prog X.w) k g fd ps sp) (hr : Room (k + 1) X.A) (hb : L2.Binds X.K fd ps []) (hx : PassesAt (L2.CX X.prog X.w) X σ (E σ))
    (I : Inv X pins σ H s) (r : Vals vs us) (h : sp vs H Q (E σ)) : wpAny (model X.prog X.w) X.A.in1 (call (.ref g) us) (EP X pins σ Q) X.xe s := by
  have n : (us ++ []).length = ps.length := by rw [List.append_nil, ← r.length]; exact F.len _ _ _ _ h
  have bd := hb s us I.kIn n
  rw [List.append_nil] at bd
  refine wpAny_call (codeAny_mono (F.run X.A.in1 X.stack s H ⟨us, []⟩ us vs Q (E σ) hr.in1 I.env0.in1 bd r h) fun q s' hq => ?_)
  cases q with
  | error er => exact hx pins H s er s' I hq
  | ok fl => cases fl <;> first | exact I.after hq | exact False.elim hq
/-! #### len(x) -/
def rLenO (C : Addr) (sp : Sp) : List V → Hp → VK → Prop := fun xs H Q => ∃ a dx fs, xs = [.ref a] ∧ H a = some (.ins C dx fs) ∧ sp [.ref a] H (fun v H' => ∃ n : Int, v = .int n ∧ 0 ≤ n ∧ n < 2 ^ 63 ∧ Q (.int n) H') (fun _ _ _ => False)
theorem cr_lenO (M : OwnM X.K C "__len__" g fd ps) (F : FnOk X.prog X.w X.K X.mg X.base (L2.CX X.prog X.w) k g fd ps sp) (hr : Room (k + 1) X.A) : CallR X (.builtin "len") (rLenO C sp) := by
  intro pins s σ H xs us Q I r h
  obtain ⟨a, dx, fs, rfl, ha, q⟩ := h
  obtain ⟨u, rfl, ru⟩ := vals1 r
  cases ru
  obtain ⟨ox, od, J⟩ := inst_of I ha
  obtain ⟨m, fr⟩ := I.fr
  refine PySem.W.len_K fr I.ok.mod.kin J M.at_ M.isf (wpAny_mono (run_in1 F hr M.b I (.cons (show L2.RelV (.ref a) (Value.ref a) from rfl) .nil) q) (fun v s' z => ?_) fun _ _ z => z)
  obtain ⟨w, H', I', rw', n, rfl, n0, n1, q'⟩ := z
  obtain ⟨t, rfl⟩ := rw'
  exact ⟨⟨n0, n1⟩, .int n, H', I'.tok _, ⟨_, rfl⟩, q'⟩
def lenI (d : D) : M D := match d with
  | .int i => if decide (0 ≤ i ∧ i < 2 ^ 63) = true then mret (.int i) else mbad
  | _ => mbad
def lenO (n : Nat) (md : List D → M D) (ds : List D) : M D := match ds with
  | [.ins k ns xs] => if (k == n) = true then mbind (nox (md [.ins k ns xs])) lenI else mbad
  | _ => mbad
theorem prim_lenO : PrimL G (rLenO (G.cls n) (spM G 1 md)) (lenO n md) := by
  intro W p σ H s xs vs Q pk rs fin
  unfold lenO at fin
  split at fin
  · rename_i k ns zs
    obtain ⟨v, _, rfl, rx, hz⟩ := rs
    obtain rfl := hz
    split at fin
    · rename_i hk
      obtain rfl : k = n := beq_iff_eq.mp hk
      obtain ⟨a, dx, us, rfl, a0, a1, al, as⟩ := id rx
      refine ⟨a, dx, _, rfl, a1, rfl, p, [.ins k ns zs], s, ⟨_, _, rfl, rx, rfl⟩, pk, ?_⟩
      have fin' : FinG G W (RelE G) p σ H Q (obind (nox (md [.ins k ns zs]) s) lenI) := fin
      unfold nox at fin'
      cases q : md [.ins k ns zs] s with
      | bad => rw [q] at fin'; exact False.elim fin'
      | exc c ns zs s1 => rw [q] at fin'; exact False.elim fin'
      | ok d s1 =>
        rw [q] at fin'
        cases d <;> try (exact False.elim fin')
        rename_i i
        have fin2 : FinG G W (RelE G) p σ H Q ((if decide (0 ≤ i ∧ i < 2 ^ 63) = true then (mret (.int i) : M D) else mbad) s1) := fin'
        split at fin2
        · rename_i hi
          have hi' := of_decide_eq_true hi
          intro v H' k' pk' rv
          obtain rfl : v = .int i := rv
          exact ⟨i, rfl, hi'.1, hi'.2, fin2 _ H' k' pk' rfl⟩
        · exact False.elim fin2
    · exact False.elim fin
  · exact False.elim fin
/-! #### x[i] -/
def tIxO (C : Addr) (sp : Sp) (E : L2.St → XK) (ta tb : TE) : TE := fun σ H Q => ta σ H fun x H1 => tb σ H1 fun y H2 => ∃ a dx fs, x = .ref a ∧ H2 a = some (.ins C dx fs) ∧ sp [x, y] H2 Q (E σ)
def ixO (n : Nat) (md : List D → M D) : D → D → M D := fun x y => match x with
  | .ins k ns xs => if (k == n) = true then md [.ins k ns xs, y] else mbad
  | _ => mbad
theorem x_ixO (M : OwnM X.K (G.cls n) "__getitem__" g fd ps) (F : FnOk X.prog X.w X.K X.mg X.base (L2.CX X.prog X.w) k g fd ps (spM G 2 md)) (hr : Room (k + 1) X.A) (tk : Takes X W) (ha : DE G X W a ta fa) (hb : DE G X W b tb fb)
    (hs : ∀ o i, subscripted b true o i = runValue (.builtin "lifetime.subscript" ⟨[o, i], []⟩) := by intro _ _; with_unfolding_all rfl) : DE G X W (.Subscript a b pos) (tIxO (G.cls n) (spM G 2 md) (WE W) ta tb) (kOp (ixO n md) fa fb) := by
  refine ⟨⟨fun pins s σ H Q I h => ?_⟩, fun p σ H ρ s Q en pk fin => ?_⟩
  · refine Subscript_ (binT ha.pe hb.pe I h fun v u s2 x y H2 I2 rx ry q => ?_)
    obtain ⟨z, dx, fs, rfl, hz, q'⟩ := q
    obtain rfl : v = Value.ref z := rx
    obtain ⟨ox, od, J⟩ := inst_of I2 hz
    obtain ⟨m, fr⟩ := I2.fr
    exact PySem.W.sub_K fr I2.ok.mod.kin J M.at_ M.fnin M.isf (run_in1S (E := WE W) F hr M.b (passAt tk σ) I2 (.cons (show L2.RelV (.ref z) (Value.ref z) from rfl) (.cons ry .nil)) q') (hs _ _)
  · refine ha.run p σ H ρ s _ en pk (FinG.step (RA := RelE G) fin fun x s1 v H1 k1 pk1 rx fin1 => ?_)
    refine hb.run p σ H1 ρ s1 _ (en.keep pk.at k1) pk1 (FinG.step (RA := RelE G) fin1 fun y s2 u H2 k2 pk2 ry fin2 => ?_)
    have rx2 := rep_keep pk1.at k2 _ _ rx
    unfold ixO at fin2
    cases x <;> try (exact False.elim fin2)
    rename_i kx nx xs
    dsimp only at fin2
    split at fin2
    · rename_i hk
      obtain rfl : kx = n := beq_iff_eq.mp hk
      obtain ⟨z, dx, us, rfl, a0, a1, al, as⟩ := id rx2
      refine ⟨z, dx, _, rfl, a1, rfl, p, [.ins kx nx xs, y], s2, ⟨_, _, rfl, rx2, _, _, rfl, ry, rfl⟩, pk2, ?_⟩
      exact FinG.wx fin2 fun c d H' q => q
    · exact False.elim fin2
end
end Tw

set_option Elab.async false
set_option linter.all false
set_option maxRecDepth 100000
set_option maxHeartbeats 4000000
set_option autoImplicit false
/-! ### own __iter__ that gives out the iterator of a tuple that it holds -/
namespace Tw
open PySem L2 PySem.Spec PyProof.Rows
/-- at it an iterator over the tuple at t, at its start -/
def ItT (t it : Addr) : HO := .ext fun h => h.IsTupleIter it t 0
theorem itT_ok {P : Program} {w : World} {H : Hp} {h : Heap} {t it : Addr} (x : h.IsTupleIter it t 0) : ObjOk P w H h it (ItT t it) :=
  ⟨x, by obtain ⟨o, e, _⟩ := x; exact ⟨o, e⟩, fun h1 h2 y k => Heap.IsTupleIter.at y k⟩
/-- as FnOk; the promise may ask how large the heap is at the call -/
structure FnN (P : Program) (w : World) (K : PySem.W.Frag) (mg : Str → Option Value) (base : Heap) (CX : CXT) (k : Nat) (f : Addr) (fd : FuncData) (ps : List Str) (sp : Nat → Sp) : Prop where
  len : ∀ n vs H Q E, sp n vs H Q E → vs.length = ps.length
  run : ∀ (A : Around) (outer : List Env) (s : Shared) (H : Hp) (args : Args) (us : List Value) (vs : List V) (Q : VK) (E : XK),
    Room k A → Env0 P w K mg base A outer s H → BindsTo s fd args (ps.zip us) → Vals vs us → sp s.heap.objs.size vs H Q E → codeAny (model P w) A (.call (.ref f) args) (CR CX outer P w H s Q E) s
section
variable {P : Program} {w : World} {K : PySem.W.Frag} {mg : Str → Option Value} {base : Heap} {CX : CXT} {f : Addr} {fd : FuncData} {ps : List Str} {sp : Nat → Sp} {k : Nat}
theorem fnn_of {x qual : Str} {params : Arguments} {body : List Stmt} {scope : Scope} {dvs : List V} {kws : List (Str × V)} {N : List Str} (F : FunD K x qual params body scope dvs kws f fd) (S : FnScope N ps scope) (len : ∀ n vs H Q E, sp n vs H Q E → vs.length = ps.length)
    (walk : ∀ (cdv : Value) (A : Around) (outer : List Env) (s : Shared) (H : Hp) (vs : List V) (Q : VK) (E : XK), Room k (A.deeper (envOfC qual scope s.heap.objs.size f cdv)) → sp s.heap.objs.size vs H Q E →
      ∃ t, PSs (cxOf CX P w K mg base N qual scope f cdv A outer s H E) body t ∧ t { nx := fun _ H' => Q .non H', rt := Q } (L2.start N vs) H) : FnN P w K mg base CX (k + 1) f fd ps sp := by
  obtain ⟨oc, od, dV, kV, doc, pm, an, cdv, ct, osl, rfl, lk, hcd, _, _⟩ := F.ex
  refine ⟨len, fun A outer s H args us vs Q E room e0 bd rv wish => ?_⟩
  have Kin : K.In s.heap := e0.mod.kin.keeps fun b o z => (e0.bs b o z).1
  have local' : ∀ y ∈ ps.zip us, scope.names.lookup y.1 = some .local ∨ (scope.names.lookup y.1 = some .cell ∧ ((cellsFrom (s.heap.objs.size + 1) scope.names []).lookup y.1).isSome = true) := by
    rintro ⟨n, v⟩ hy
    exact (S.par n (List.of_mem_zip hy).1).imp id fun q => ⟨q, PySem.W.cellsFrom_some _ _ _ (.inl q)⟩
  refine codeAny_call_function room.depth (Kin _ _ lk) rfl S.co S.gen rfl (PySem.W.codeRec_of Kin hcd) (bd _ _ _ _ ?_)
  refine wpAny_newFunctionEnv_cells S.kind local' fun env he s1 x => ?_
  subst he
  refine ⟨(e0.mod.nolimit.keeps fun b o z => (e0.bs b o z).1).keeps x.toInCall.keep, codeAny_func ?_⟩
  obtain ⟨t, ht, hq⟩ := walk cdv A outer s H vs Q E (room.deeper _) wish
  refine wpAny_mono (ht.run [] s1 (L2.start N vs) H _ (inv_start S room.hd e0 (len _ _ _ _ _ wish) rv x) hq) (fun fl s' hs => ?_) fun e s' hs => hs
  cases fl with
  | ret u => obtain ⟨v, σ', H', J, rv', q⟩ := hs; exact ⟨v, H', J.os, J.bare, J.base, J.hok, rv', q⟩
  | next => obtain ⟨σ', H', J, q⟩ := hs; exact ⟨V.non, H', J.os, J.bare, J.base, J.hok, rfl, q⟩
  | brk => obtain ⟨_, _, _, q⟩ := hs; exact False.elim q
  | cont => obtain ⟨_, _, _, q⟩ := hs; exact False.elim q
end
/-- iter(t), t a tuple -/
def rIterT (K : PySem.W.Frag) (n : Nat) : List V → Hp → VK → Prop := fun xs H Q => ∃ (t : Addr) (zs : List V), xs = [.ref t] ∧ SqT K H t zs ∧ ∀ it, H it = none → n ≤ it → Q (.ref it) (upd H it (ItT t it))
/-- what such an __iter__ promises -/
def spIt (K : PySem.W.Frag) (C : Addr) (f : Str) (n : Nat) : Sp := fun vs H Q _ => ∃ a dx fs t zs, vs = [.ref a] ∧ H a = some (.ins C dx fs) ∧ fs.lookup f = some (.ref t) ∧ SqT K H t zs ∧ ∀ it, H it = none → n ≤ it → Q (.ref it) (upd H it (ItT t it))
section
variable {X : Cx}
theorem call_iter_tup {prog : Program} {w : World} {A : Around} {E : Value → Shared → Prop} {s : Shared} {t : Addr} {items : Array Value} {Q : Value → Shared → Prop} (ht : s.heap.IsTuple t items) (h : Q (.ref s.heap.objs.size) { s with heap := s.heap.push (mkIt true t) }) :
    wpAny (model prog w) A (call (.builtin "iter") [.ref t]) Q E s :=
  Calls.call_function_entry (by decide +kernel) (by decide +kernel) PySem.W.kdk_entry_iter (PySem.W.kdk_args_iter _) (by
    unfold Builtin.«iter»
    exact wpAny_bind (m := someArgs "iter" 1 2 _) (wpAny_of_eq (a := [Value.ref t]) (by first | rfl | kernel_rfl!) (wpAny_bind (m := pyIter (.ref t)) (wpAny_pyIter_tuple ht (wpAny_pure ⟨_, rfl, h⟩)))))
theorem cr_iterT : CallR X (.builtin "iter") (rIterT X.K X.s_0.heap.objs.size) := by
  intro pins s σ H xs us Q I r h
  obtain ⟨t, zs, rfl, hq, q⟩ := h
  obtain ⟨u, rfl, ru⟩ := vals1 r
  cases ru
  obtain ⟨its, rv, pl, hz⟩ := I.tuple hq
  refine call_iter_tup pl ?_
  exact ⟨.ref s.heap.objs.size, _, I.laid (t' := s.toks) (fun b u z => Heap.get?_push_of_some _ z) (Nat.le_refl _) (itT_ok (iterX_of (k := true) (Heap.get?_push_size _ rfl))), rfl, q _ (I.hok.fresh (Nat.le_refl _)) I.sz⟩
end
section
variable {P : Program} {w : World} {K : PySem.W.Frag} {mg : Str → Option Value} {base : Heap}
theorem ok_itr {qual : Str} {st : Stmt} {fd : FuncData} {f C : Addr} {fl : Str} (F : FunD K "__iter__" qual (defArgs st) (defBody st) (defScope st) [] [] f fd) (S : FnScope ["self"] ["self"] (defScope st)) (hc : L2.Cls K C) (hn : L2.NoAttr K C fl)
    (hb : ∀ (cdv : Value) (A : Around) (outer : List Env) (s : Shared) (H : Hp) (E : XK), Room 0 (A.deeper (envOfC qual (defScope st) s.heap.objs.size f cdv)) →
      PSs (cxOf (L2.CX P w) P w K mg base ["self"] qual (defScope st) f cdv A outer s H E) (defBody st) (tRet (tCB (rIterT K s.heap.objs.size) (tCons (tFld K (tVar 0) fl) tNil)))) : FnN P w K mg base (L2.CX P w) 1 f fd ["self"] (spIt K C fl) := by
  refine fnn_of F S (fun n vs H Q E h => by obtain ⟨_, _, _, _, _, rfl, _⟩ := h; rfl) fun cdv A outer s H vs Q E hr h => ⟨_, hb cdv A outer s H E hr, ?_⟩
  obtain ⟨a, dx, fs, t, zs, rfl, ha, hl, hq, q⟩ := h
  exact ⟨_, rfl, a, C, dx, fs, _, rfl, ha, hc, hn, hl, t, zs, rfl, hq, q⟩
end
/-! #### what walks an instance -/
section
variable {K : PySem.W.Frag} {G : Gt} {W : WX} {X : Cx} {C g : Addr} {fd : FuncData} {ps : List Str} {k n : Nat} {f : Str} {e : Expr} {te : TE} {fe : Loc → M D}
/-- pyIter of an instance -/
theorem go_iter {A : Around} {pins : List (Addr × Obj)} {σ : L2.St} {H : Hp} {s : Shared} {a dx t : Addr} {fs : List (Str × V)} {zs : List V} {Q : Value → Shared → Prop} (M : OwnM X.K C "__iter__" g fd ps) (F : FnN X.prog X.w X.K X.mg X.base (L2.CX X.prog X.w) k g fd ps (spIt X.K C f))
    (hr : Room k A) (he : Env0 X.prog X.w X.K X.mg X.base A X.stack s H) (I : Inv X pins σ H s) (ha : H a = some (.ins C dx fs)) (hl : fs.lookup f = some (.ref t)) (hq : SqT X.K H t zs)
    (h : ∀ it s', s.heap.objs.size ≤ it → H it = none → Inv X pins σ H s' → s'.heap.IsTupleIter it t 0 → Q (.ref it) s') : wpAny (model X.prog X.w) A (pyIter (.ref a)) Q X.xe s := by
  obtain ⟨ox, od, J⟩ := inst_of I ha
  obtain ⟨m, fr⟩ := I.fr
  have wish : spIt X.K C f s.heap.objs.size [.ref a] H (fun v H' => ∃ it, v = .ref it ∧ s.heap.objs.size ≤ it ∧ H it = none ∧ H' = upd H it (ItT t it)) (fun _ _ _ => False) := ⟨a, dx, fs, t, zs, rfl, ha, hl, hq, fun it h1 h2 => ⟨it, rfl, h2, h1, rfl⟩⟩
  have n1 := F.len _ _ _ _ _ wish
  have bd := M.b s [.ref a] I.kIn (by simpa using n1)
  refine PySem.W.owit_iter fr I.ok.mod.kin J M.at_ M.isf (wpAny_call (codeAny_mono (F.run A X.stack s H ⟨[.ref a], []⟩ [.ref a] [.ref a] _ _ hr he (by simpa using bd) (.cons rfl .nil) wish) fun r s' hs => ?_))
  rcases r with er | fl
  · exact passL pins σ H s er s' I hs
  · cases fl <;> first | exact False.elim hs | skip
    rename_i u
    obtain ⟨v, H', I', rv, it, rfl, i1, i2, rfl⟩ := I.after hs
    cases rv
    have st : s'.heap.IsTupleIter it t 0 := (I'.hok it _ upd_same).1
    have I2 := ItX.inv_drop I' (upd_same : upd H it (ItT t it) it = some (.ext fun h => h.IsTupleIter it t 0))
    rw [ItX.dropH_upd i2] at I2
    have ty : s'.TypeIs (.ref it) "tuple_iterator" := Heap.IsTupleIter.typeIs st
    exact wpAny_specialOf (name := Str.ofString "__next__") ty PySem.F.slot_tuple_iterator_next.lookup (h it s' i1 i2 I2 st)
def iOwnI (K : PySem.W.Frag) (C : Addr) (f : Str) (te : TE) : TI := fun σ H R => te σ H fun v H1 => ∃ a dx fs t zs, v = .ref a ∧ H1 a = some (.ins C dx fs) ∧ fs.lookup f = some (.ref t) ∧ SqT K H1 t zs ∧ R (Itt K t) H1
theorem pi_own {tg : Expr} (M : OwnM X.K C "__iter__" g fd ps) (F : FnN X.prog X.w X.K X.mg X.base (L2.CX X.prog X.w) k g fd ps (spIt X.K C f)) (hr : Room k X.A) (he : PE X e te) : PI X tg e (iOwnI X.K C f te) := by
  refine ⟨fun pins s σ H R I h => thn (he.run pins s σ H _ I h) fun u s1 ⟨v, H1, I1, rv, q⟩ => ?_⟩
  obtain ⟨a, dx, fs, t, zs, rfl, ha, hl, hq, q'⟩ := q
  cases rv
  refine go_iter M F hr I1.env0 I1 ha hl hq fun it s' h1 h2 I2 st => ?_
  exact ⟨it, [it], _, _, H1, rfl, I2, turn_tuple t it, st, fun b hb => by rw [List.mem_singleton.mp hb]; exact I1.fpOk h1 h2, q'⟩
def ownSeq (n : Nat) (f : Str) (d : D) : M (List D) := match d with
  | .ins k ns xs => if (k == n) = true then (match fldOf ns xs f with
    | some (.tup ds) => mret ds
    | _ => mbad) else mbad
  | _ => mbad
def iOw (n : Nat) (f : Str) (fe : Loc → M D) : Loc → M (List D) := fun ρ => mbind (fe ρ) (ownSeq n f)
theorem i_own {tg : Expr} (M : OwnM X.K (G.cls n) "__iter__" g fd ps) (F : FnN X.prog X.w X.K X.mg X.base (L2.CX X.prog X.w) k g fd ps (spIt X.K (G.cls n) f)) (hr : Room k X.A) (he : DE G X W e te fe) : DI G X W tg e (iOwnI X.K (G.cls n) f te) (iOw n f fe) := by
  refine ⟨pi_own M F hr he.pe, fun p σ H ρ s Q en pk fin => ?_⟩
  refine he.run p σ H ρ s _ en pk (fin.step fun d s1 v H1 k1 pk1 rd fin1 => ?_)
  unfold ownSeq at fin1
  cases d <;> try (exact fin1.elim)
  rename_i kx ns xs
  dsimp only at fin1
  split at fin1
  · rename_i hk
    obtain rfl : kx = n := beq_iff_eq.mp hk
    rcases hf : fldOf ns xs f with _ | y
    · rw [hf] at fin1; exact fin1.elim
    · rw [hf] at fin1
      cases y <;> try (exact fin1.elim)
      rename_i ds
      obtain ⟨a, dx, vs, rfl, a0, a1, al, as⟩ := rd
      obtain ⟨u, h2, h3⟩ := fld_rep as hf
      obtain ⟨t, us, rfl, t0, t1, rs⟩ := h3
      exact ⟨a, dx, _, t, us, rfl, a1, h2, SqT.of t1, fin1 _ H1 Keep.refl pk1 (iter_tup pk1 t0 t1 rs)⟩
  · exact fin1.elim
end
end Tw

set_option Elab.async false
set_option linter.all false
set_option maxRecDepth 100000
set_option maxHeartbeats 4000000
set_option autoImplicit false
/-! ### list(x), x with own __iter__ and __len__ -/
namespace Tw
open PySem L2 PySem.Spec PyProof.Rows
section
variable {K : PySem.W.Frag} {G : Gt} {W : WX} {X : Cx} {C g gl : Addr} {fd fdl : FuncData} {ps psl : List Str} {k n : Nat} {f : Str} {spl : Sp}
/-- how long it will be: its __len__ is asked -/
theorem hint_len {M : Model} {A : Around} {E : Value → Shared → Prop} {s : Shared} {a : Addr} {ox : Obj} {od : Option Obj} {Q : Bool → Shared → Prop} (O : OwnM K C "__len__" gl fdl psl) (Kin : K.In s.heap) (J : PySem.W.InstAt s.heap a ox C od)
    (h : wpAny M A (call (.builtin "len") [.ref a]) (fun v s' => ∃ n t, v = .int n t ∧ 0 ≤ n ∧ n ≤ 1000000 ∧ ∀ b, Q b s') (fun _ _ => False) s) : wpAny M A (Builtin.List.listLengthHint (.ref a)) Q E s := by
  unfold Builtin.List.listLengthHint
  refine wpAny_bind (wpAny_bind (J.type.here ((PySem.W.looks_findIn Kin O.at_).here ?_)))
  refine PySem.W.KFB.if_not rfl (PySem.W.KFB.if_so rfl ?_)
  refine wpAny_bind (wpAny_rule (wpAny_bind (wpAny_attempt (wpAny_mono h (fun v s' z => ?_) fun _ _ z => z.elim))))
  obtain ⟨n, t, rfl, n0, n1, q⟩ := z
  refine wpAny_bind (m := asInt? (.int n t)) (wpAny_pure ?_)
  refine PySem.W.KFB.if_not ?_ (wpAny_pure (q _))
  show decide (n.toNat > sizeLine) = false
  rw [sizeLine_eq]
  exact decide_eq_false (by omega)
theorem no_out {P : Program} {w : World} {outer : List Env} {H : Hp} {s s' : Shared} {e : Value} : L2.CX P w outer H s (fun _ _ _ => False) e s' → False := fun z => by
  obtain ⟨_, _, _, _, _, _, _, _, _, _, _, _, q⟩ := z
  exact q
/-- a callee that lets nothing out, run within A -/
theorem run_at {A : Around} {E : Value → Shared → Prop} {pins : List (Addr × Obj)} {σ : L2.St} {H : Hp} {s : Shared} {Q : VK} {us : List Value} {vs : List V} {sp : Sp} (F : FnOk X.prog X.w X.K X.mg X.base (L2.CX X.prog X.w) k g fd ps sp) (hr : Room k A) (he : Env0 X.prog X.w X.K X.mg X.base A X.stack s H) (hb : L2.Binds X.K fd ps [])
    (I : Inv X pins σ H s) (r : Vals vs us) (h : sp vs H Q (fun _ _ _ => False)) : wpAny (model X.prog X.w) A (call (.ref g) us) (EP X pins σ Q) E s := by
  have n : (us ++ []).length = ps.length := by rw [List.append_nil, ← r.length]; exact F.len _ _ _ _ h
  have bd := hb s us I.kIn n
  rw [List.append_nil] at bd
  refine wpAny_call (codeAny_mono (F.run A X.stack s H ⟨us, []⟩ us vs Q (fun _ _ _ => False) hr he bd r h) fun q s' hq => ?_)
  rcases q with er | fl
  · exact (no_out hq).elim
  · cases fl <;> first | exact I.after hq | exact False.elim hq
/-- the rest of the tuple at t goes into the list at q -/
theorem go_loop {A : Around} {R : Result → Shared → Prop} {pins : List (Addr × Obj)} {σ : L2.St} {t it q : Addr} {zs : List V} {H0 : Hp} (calm : A.in1.handled = none) (hz : zs.length ≤ 100000) (h0 : H0 t = some (.tup zs)) (hq : q ≠ t) (hiq : it ≠ q)
    (hd : ∀ s, Inv X pins σ (upd H0 q (.lst zs)) s → R (.ok (.ret .none)) s) :
    ∀ (m i : Nat) (s : Shared), i + m = zs.length → Inv X pins σ (upd H0 q (.lst (zs.take i))) s → FpOk X pins (upd H0 q (.lst (zs.take i))) it → s.heap.IsTupleIter it t i →
      codeAny (model X.prog X.w) A (.builtin "list.extend.loop" ⟨[.ref q, .ref it, .none], []⟩) R s := by
  intro m
  induction m with
  | zero =>
    intro i s e I fp st
    have ei : i = zs.length := by omega
    subst ei
    rw [List.take_length] at I fp
    have hT : SqT X.K (upd H0 q (.lst zs)) t zs := SqT.of (by rw [upd_ne (Ne.symm hq)]; exact h0)
    obtain ⟨us, ru, hu, _⟩ := I.tuple hT
    refine codeAny_builtin PySem.F.entry_extend_loop ?_
    rw [Around.under_plainId PySem.F.plain_extend_loop _]
    refine wpAny_bind (m := pyNext (.ref it)) (wpAny_pyNext_tuple_end calm st hu (by have := ru.length; simp; omega) fun h' kk => wpAny_pure (hd _ ?_))
    obtain ⟨f0, f1, f2, f3, f4, f5⟩ := fp
    exact I.turned (t' := s.toks) (fun b o z y => kk b o z y) f0 f1 f3 f4 f5
  | succ m ih =>
    intro i s e I fp st
    have li : i < zs.length := by omega
    have hT : SqT X.K (upd H0 q (.lst (zs.take i))) t zs := SqT.of (by rw [upd_ne (Ne.symm hq)]; exact h0)
    obtain ⟨us, ru, hu, _⟩ := I.tuple hT
    obtain ⟨u, eu, rv⟩ := ru.get (List.getElem?_eq_getElem li)
    refine codeAny_builtin PySem.F.entry_extend_loop ?_
    rw [Around.under_plainId PySem.F.plain_extend_loop _]
    refine wpAny_bind (m := pyNext (.ref it)) (wpAny_pyNext_tuple_item st hu (x := u) (by simpa using eu) fun h' st' sb => ?_)
    obtain ⟨f0, f1, f2, f3, f4, f5⟩ := id fp
    have I' := I.turned (t' := s.toks) (fun b o z y => sb.extBut b o z y) f0 f1 f3 f4 f5
    obtain ⟨_, its, c, r2, hl, hget⟩ := I'.lstM upd_same
    have lt : its.length ≤ i := by rw [← hl, List.length_take]; omega
    refine wpAny_bind (m := updateSeq q (·.push u)) (wpAny_updateSeq hget rfl (wpAny_pure ⟨plainId_quiet PySem.F.plain_extend_loop _, ?_⟩) (by rw [List.size_toArray, sizeLine_eq]; omega) (by show (its.toArray.push u).size ≤ sizeLine + 1; rw [Array.size_push, List.size_toArray, sizeLine_eq]; omega))
    have tk : zs.take (i + 1) = zs.take i ++ [zs[i]] := by rw [List.take_succ, List.getElem?_eq_getElem li]; rfl
    have I2 := I'.lset (f := (·.push u)) (its' := its ++ [u]) (ys := zs.take (i + 1)) (t' := s.toks) upd_same hget (by simp) (by rw [tk]; exact r2.append (.cons rv .nil)) (by rw [List.length_take, sizeLine_eq]; omega)
    rw [upd_upd] at I2
    refine ih (i + 1) _ (by omega) I2 ⟨by rw [upd_ne hiq] at f0 ⊢; exact f0, f1, f2, f3, f4, f5⟩ ?_
    exact Heap.IsTupleIter.at st' fun o y => (Heap.get?_update_other _ _ (Ne.symm hiq)).trans y
def rListO (K : PySem.W.Frag) (C : Addr) (f : Str) (spl : Sp) : List V → Hp → VK → Prop := fun xs H Q => ∃ a dx fs t zs, xs = [.ref a] ∧ H a = some (.ins C dx fs) ∧ fs.lookup f = some (.ref t) ∧ H t = some (.tup zs) ∧ zs.length ≤ 100000 ∧
  ∀ q, H q = none → spl [.ref a] (upd H q (.lst [])) (fun v H' => ∃ n : Int, v = .int n ∧ 0 ≤ n ∧ n ≤ 1000000 ∧ H' q = some (.lst []) ∧ H' t = some (.tup zs) ∧ Q (.ref q) (upd H' q (.lst zs))) (fun _ _ _ => False)
theorem upd_self {H : Hp} {q : Addr} {o : HO} (h : H q = some o) : upd H q o = H := by
  funext b
  by_cases z : b = q
  · rw [z, upd_same, h]
  · rw [upd_ne z]
theorem cr_listO (M : OwnM X.K C "__iter__" g fd ps) (F : FnN X.prog X.w X.K X.mg X.base (L2.CX X.prog X.w) k g fd ps (spIt X.K C f)) (O : OwnM X.K C "__len__" gl fdl psl) (Fl : FnOk X.prog X.w X.K X.mg X.base (L2.CX X.prog X.w) k gl fdl psl spl)
    (hc : X.calm = true) (hr : Room (k + 3) X.A) : CallR X (.type "list") (rListO X.K C f spl) := by
  intro pins s σ H xs us Q I r h
  obtain ⟨a, dx, fs, t, zs, rfl, ha, hl, ht, hz, wish⟩ := h
  obtain ⟨u, rfl, ru⟩ := vals1 r
  cases ru
  have calm : X.A.handled = none := I.ok.hd hc
  refine callType_codes (Q₁ := fun o s1 => o = .ref s.heap.objs.size ∧ s1 = { s with heap := s.heap.push { cls := .type "list", data := .seq #[] } }) PySem.F.called_list (PySem.F.typeCall_list_1 _) PySem.F.entry_list_init (code_list_new _ ⟨rfl, rfl⟩) fun o s1 hs => ?_
  obtain ⟨rfl, rfl⟩ := hs
  have got : (s.heap.push { cls := .type "list", data := .seq #[] }).get? s.heap.objs.size = some { cls := .type "list", data := .seq #[] } := Heap.get?_push_size _ rfl
  refine ⟨⟨_, got, rfl⟩, PySem.F.args_list_init_2 _ _, ?_⟩
  have hn : H s.heap.objs.size = none := I.hok.fresh (Nat.le_refl _)
  have I1 : Inv X pins σ (upd H s.heap.objs.size (.lst [])) { s with heap := s.heap.push { cls := .type "list", data := .seq #[] } } := I.lnew (its := []) (t' := s.toks) .nil (Nat.zero_le _)
  refine wpAny_bind (m := Builtin.List.listItems (.ref s.heap.objs.size)) (wpAny_bind (wpAny_seqItems got rfl (wpAny_pure ?_)))
  refine wpAny_bind (m := updateSeq s.heap.objs.size (fun _ => #[])) (wpAny_updateSeq got rfl ?_)
  have I2 := I1.lset (f := fun _ => #[]) (its := []) (its' := []) (ys := []) (t' := s.toks) upd_same got rfl .nil (Nat.zero_le _)
  rw [upd_upd] at I2
  refine wpAny_bind (m := letGo (#[] : Array Value).toList.reverse) (wpAny_letGo ?_)
  have aq : a ≠ s.heap.objs.size := ne_of_none ha hn
  have tq : t ≠ s.heap.objs.size := ne_of_none ht hn
  have ha2 : upd H s.heap.objs.size (.lst []) a = some (.ins C dx fs) := by rw [upd_ne aq]; exact ha
  have ht2 : upd H s.heap.objs.size (.lst []) t = some (.tup zs) := by rw [upd_ne tq]; exact ht
  obtain ⟨ox, od, J⟩ := inst_of I2 ha2
  unfold Builtin.List.listExtendWith
  refine wpAny_bind (J.type.here ?_)
  have b1 : Builtin.List.listSameRef (.ref s.heap.objs.size) (.ref a) = false := by simp [Builtin.List.listSameRef, Ne.symm aq]
  have b2 : (Value.ref C == Value.type "list") = false := rfl
  have b3 : (Value.ref C == Value.type "tuple") = false := rfl
  rw [b1, b2, b3]
  refine PySem.W.KFB.if_not rfl (wpAny_bind ?_)
  have e2 : ∀ {H' : Hp} {s' : Shared}, Inv X pins σ H' s' → Env0 X.prog X.w X.K X.mg X.base X.A.in1.in1 X.stack s' H' := fun J => J.env0.in1.in1
  refine wpAny_mono (go_iter M F (hr.in1.in1.mono (by omega)) (e2 I2) I2 ha2 hl (SqT.of ht2) (Q := fun v s' => ∃ it, v = .ref it ∧ (s.heap.push { cls := .type "list", data := .seq #[] }).objs.size ≤ it ∧ upd H s.heap.objs.size (.lst []) it = none ∧ Inv X pins σ (upd H s.heap.objs.size (.lst [])) s' ∧ s'.heap.IsTupleIter it t 0)
    fun it s' h1 h2 h3 h4 => ⟨it, rfl, by simpa [Heap.update] using h1, h2, h3, h4⟩) (fun v s' z => ?_) fun er s' z => z
  obtain ⟨it, rfl, i1, i2, I3, st⟩ := z
  obtain ⟨ox3, od3, J3⟩ := inst_of I3 ha2
  obtain ⟨m3, fr3⟩ := I3.fr
  have iq : it ≠ s.heap.objs.size := by
    rw [Heap.size_push] at i1
    exact Nat.ne_of_gt i1
  have fp0 : FpOk X pins H it := I.fpOk (by rw [Heap.size_push] at i1; exact Nat.le_of_succ_le i1) (by rw [upd_ne iq] at i2; exact i2)
  obtain ⟨oi, got3, hcell⟩ := iterX_get (k := true) st
  obtain ⟨f0, f1, f2, f3, f4, f5⟩ := id fp0
  have I4 : Inv X ((it, oi) :: pins) σ (upd H s.heap.objs.size (.lst [])) s' := I3.pins_of fun p hp => by
    rcases List.mem_cons.mp hp with z | z
    · rw [z]; exact ⟨got3, i2, f1, f2, hcell⟩
    · exact I3.pin p (List.mem_append_right _ z)
  refine wpAny_bind (wpAny_holding (hint_len O I3.kIn J3 (PySem.W.len_K fr3 I.ok.mod.kin J3 O.at_ O.isf (wpAny_mono (run_at Fl hr.in1.in1.in1 (I4.env0.in1.in1.in1) O.b I4 (.cons (show L2.RelV (.ref a) (Value.ref a) from rfl) .nil) (wish _ hn)) (fun v s4 z => ?_) fun _ _ z => z))))
  obtain ⟨vn, H4, I5, rv, n, rfl, n0, n1, q4, t4, q5⟩ := z
  obtain ⟨tk, rfl⟩ := rv
  refine ⟨⟨n0, by omega⟩, n, _, rfl, n0, n1, fun b => ?_⟩
  have pin5 := I5.pin (it, oi) (List.mem_append_right _ List.mem_cons_self)
  have st5 : s4.heap.IsTupleIter it t 0 := Heap.IsTupleIter.at st fun o y => by rw [got3] at y; cases y; exact pin5.1
  have fp5 : FpOk X pins H4 it := ⟨pin5.2.1, f1, f2, f3, f4, f5⟩
  have I6 : Inv X pins σ H4 { s4 with toks := s4.toks + 1 } := (I5.pins_of fun p hp => I5.pin p (List.mem_append_right _ (List.mem_cons_of_mem _ hp))).tok _
  have fin : ∀ (s5 : Shared), Inv X pins σ H4 s5 → s5.heap.IsTupleIter it t 0 →
      codeAny (model X.prog X.w) X.A.in1 (.builtin "list.extend.loop" ⟨[.ref s.heap.objs.size, .ref it, .none], []⟩) (wants (fun r s2 => r = .none ∧ EP X pins σ Q (.ref s.heap.objs.size) s2) X.xe) s5 := fun s5 I7 st7 => by
    refine go_loop (X := X) (A := X.A.in1) (H0 := H4) (zs := zs) (show X.A.in1.in1.handled = none from calm) hz t4 (Ne.symm tq) iq (fun s6 I8 => ⟨rfl, V.ref s.heap.objs.size, _, I8, (show L2.RelV (.ref s.heap.objs.size) (Value.ref s.heap.objs.size) from rfl), q5⟩) zs.length 0 s5 (by omega) ?_ ?_ st7
    · rw [List.take_zero, upd_self q4]; exact I7
    · rw [List.take_zero, upd_self q4]; exact fp5
  refine wpAny_ite_split (fun _ => ?_) (fun _ => wpAny_pure ⟨plainId_quiet PySem.F.plain_extend_loop _, fin _ I6 st5⟩)
  obtain ⟨_, us, c, r0, l0, g0⟩ := I6.lstM q4
  obtain rfl : us = [] := List.length_eq_zero_iff.mp l0.symm
  refine wpAny_bind (wpAny_rule (wpAny_bind (m := updateSeq s.heap.objs.size (·.push .none) >>= fun _ => updateSeq s.heap.objs.size (·.pop)) (wpAny_bind (wpAny_updateSeq g0 rfl ?_))))
  have I7 := I6.lset (f := (·.push Value.none)) (its' := [Value.none]) (ys := [.non]) (t' := s4.toks + 1) q4 g0 (by rfl) (.cons rfl .nil) (by rw [List.length_singleton, sizeLine_eq]; decide)
  obtain ⟨_, us7, c7, r7, l7, g7⟩ := I7.lstM upd_same
  obtain ⟨u7, rfl, _⟩ := r7.one
  refine wpAny_updateSeq g7 rfl (wpAny_pure ⟨plainId_quiet PySem.F.plain_extend_loop _, fin _ ?_ ?_⟩) (by show 1 ≤ sizeLine; rw [sizeLine_eq]; decide) (by show 0 ≤ sizeLine + 1; exact Nat.zero_le _)
  · have I8 := I7.lset (f := (·.pop)) (its := [u7]) (its' := []) (ys := []) (t' := s4.toks + 1) upd_same g7 (by rfl) .nil (Nat.zero_le _)
    rw [upd_upd, upd_self q4] at I8
    exact I8
  · exact Heap.IsTupleIter.at st5 fun o y => (Heap.get?_update_other _ _ (Ne.symm iq)).trans ((Heap.get?_update_other _ _ (Ne.symm iq)).trans y)
def lenOk (d : D) (zs : List D) : M D := match d with
  | .int i => if decide (0 ≤ i ∧ i ≤ 1000000) = true then mret (.lst zs) else mbad
  | _ => mbad
def listO (n : Nat) (f : Str) (md : List D → M D) (ds : List D) : M D := match ds with
  | [.ins k ns xs] => if (k == n) = true then (match fldOf ns xs f with
    | some (.tup zs) => if decide (zs.length ≤ 100000) = true then mbind (nox (md [.ins k ns xs])) fun d => lenOk d zs else mbad
    | _ => mbad) else mbad
  | _ => mbad
theorem prim_listO {md : List D → M D} : PrimL G (rListO K (G.cls n) f (spM G 1 md)) (listO n f md) := by
  intro W p σ H s xs vs Q pk rs fin
  unfold listO at fin
  split at fin
  · rename_i k ns zs
    obtain ⟨v, _, rfl, rx, hz⟩ := rs
    obtain rfl := hz
    split at fin
    · rename_i hk
      obtain rfl : k = n := beq_iff_eq.mp hk
      rcases hf : fldOf ns zs f with _ | y
      · rw [hf] at fin; exact fin.elim
      · rw [hf] at fin
        cases y <;> try (exact fin.elim)
        rename_i ys
        dsimp only at fin
        split at fin
        · rename_i hl
          have hl' := of_decide_eq_true hl
          obtain ⟨a, dx, us, rfl, a0, a1, al, as⟩ := id rx
          obtain ⟨u, h2, h3⟩ := fld_rep as hf
          obtain ⟨t, ws, rfl, t0, t1, rw1⟩ := h3
          refine ⟨a, dx, _, t, ws, rfl, a1, h2, t1, by rw [← repL_len rw1]; exact hl', fun q hq => ?_⟩
          have kq : Keep p H (upd H q (.lst [])) := Keep.new hq
          have wd : Wider p (p.add q) H := wider_add hq
          have rx2 : Rep G (p.add q) (upd H q (.lst [])) (.ins k ns zs) (.ref a) := rep_keep (p := p.add q) trivial (fun b o n e => kq b o (fun z => n ((Fm.mut_eq (p := p) (q := p.add q) rfl rfl).mpr z)) e) _ _ (rep_out (p := p) (q := p.add q) rfl rfl wd.2.2 _ _ rx)
          have pk2 : PenOk G (p.add q) (upd H q (.lst [])) s := pk.add hq
          refine ⟨rfl, p.add q, [.ins k ns zs], s, ⟨_, _, rfl, rx2, rfl⟩, pk2, ?_⟩
          have fin' : FinG G W (RelE G) p σ H Q (obind (nox (md [.ins k ns zs]) s) fun d => lenOk d ys) := fin
          unfold nox at fin'
          cases qm : md [.ins k ns zs] s with
          | bad => rw [qm] at fin'; exact False.elim fin'
          | exc c ns zs s1 => rw [qm] at fin'; exact False.elim fin'
          | ok d s1 =>
            rw [qm] at fin'
            cases d <;> try (exact False.elim fin')
            rename_i i
            have fin2 : FinG G W (RelE G) p σ H Q ((if decide (0 ≤ i ∧ i ≤ 1000000) = true then (mret (.lst ys) : M D) else mbad) s1) := fin'
            split at fin2
            · rename_i hi
              have hi' := of_decide_eq_true hi
              intro v H' k' pk' rv
              obtain rfl : v = .int i := rv
              have nm : ¬ p.mut q := pk.nomut hq
              have hq' : H' q = some (.lst []) := k' q _ (fun z => nm ((Fm.mut_eq (p := p) (q := p.add q) rfl rfl).mp z)) upd_same
              have ht' : H' t = some (.tup ws) := k' t _ (fun z => Fm.no t0 ((Fm.mut_eq (p := p) (q := p.add q) rfl rfl).mp z)) (by rw [upd_ne (ne_of_none t1 hq)]; exact t1)
              refine ⟨i, rfl, hi'.1, hi'.2, hq', ht', ?_⟩
              have kH : Keep p H H' := fun b o nb e => k' b o (fun z => nb ((Fm.mut_eq (p := p) (q := p.add q) rfl rfl).mp z)) (kq b o nb e)
              have kU : Keep p H (upd H' q (.lst ws)) := fun b o nb e => by
                rw [upd_ne (ne_of_none e hq)]; exact kH b o nb e
              have pk3 : PenOk G p (upd H' q (.lst ws)) s1 := (pk'.upd (.inr rfl) (fun z => nm ((Fm.mut_eq (p := p) (q := p.add q) rfl rfl).mp z))).sub
              exact fin2 _ _ kU pk3 ⟨q, ws, rfl, pk.free hq, upd_same, repL_keep pk.at kU _ _ rw1⟩
            · exact False.elim fin2
        · exact False.elim fin
    · exact False.elim fin
  · exact False.elim fin
end
end Tw

set_option Elab.async false
set_option linter.all false
set_option maxRecDepth 100000
set_option maxHeartbeats 4000000
set_option autoImplicit false
/-! ### a list that grows, looked at as a list for a while -/
namespace Tw
open PySem L2 PySem.Spec PyProof.Rows
mutual
/-- no list within -/
def nolst : D → Bool
  | .lst _ => false
  | .err _ _ _ => false
  | .self => false
  | .tup xs => nolstL xs
  | .ins _ _ xs => nolstL xs
  | .non => true
  | .bl _ => true
  | .int _ => true
  | .str _ => true
  | .ty _ => true
  | .cls _ => true
  | .pen => true
  | .bag => true
def nolstL : List D → Bool
  | [] => true
  | d :: ds => nolst d && nolstL ds
end
section
variable {K : PySem.W.Frag} {G : Gt} {W : WX} {X : Cx}
variable {a b c e : Expr} {es : List Expr} {ta tb te to tv ti : TE} {fa fb fe fo fv fi : Loc → M D} {pos : Pos} {tA : TA} {fA : Loc → M (List D)}
mutual
/-- a tree without lists names no address at which a list stands -/
theorem rep_shut {p q : Fm} {H : Hp} {x : Addr} {vs : List V} (hp : q.pen = p.pen) (ho : ∀ a, q.out a → p.out a ∨ a = x) (hx : H x = some (.lst vs)) : ∀ (d : D) (v : V), nolst d = true → Rep G p H d v → Rep G q H d v
  | .non, _, _, h => h
  | .bl _, _, _, h => h
  | .int _, _, _, h => h
  | .str _, _, _, h => h
  | .ty _, _, _, h => h
  | .cls _, _, _, h => h
  | .pen, _, _, h => by obtain ⟨a, c, e, z⟩ := h; exact ⟨a, c, hp.trans e, z⟩
  | .bag, _, _, h => by obtain ⟨a, e, z⟩ := h; exact ⟨a, hp.trans e, z⟩
  | .self, _, e, _ => by cases e
  | .err _ _ _, _, e, _ => by cases e
  | .lst _, _, e, _ => by cases e
  | .tup ds, v, e, h => by
    obtain ⟨a, us, e1, q0, q1, q2⟩ := h
    exact ⟨a, us, e1, fun z => (ho a z).elim q0 fun z => (by rw [z, hx] at q1; cases q1), q1, repL_shut hp ho hx ds us e q2⟩
  | .ins n ns ds, v, e, h => by
    obtain ⟨a, dx, us, e1, q0, q1, q3, q2⟩ := h
    exact ⟨a, dx, us, e1, fun z => (ho a z).elim q0 fun z => (by rw [z, hx] at q1; cases q1), q1, q3, repL_shut hp ho hx ds us e q2⟩
theorem repL_shut {p q : Fm} {H : Hp} {x : Addr} {vs : List V} (hp : q.pen = p.pen) (ho : ∀ a, q.out a → p.out a ∨ a = x) (hx : H x = some (.lst vs)) : ∀ (ds : List D) (us : List V), nolstL ds = true → RepL G p H ds us → RepL G q H ds us
  | [], _, _, h => h
  | d :: ds, us, e, h => by
    obtain ⟨v, r, e1, q1, q2⟩ := h
    have e' : (nolst d && nolstL ds) = true := e
    rw [Bool.and_eq_true] at e'
    exact ⟨v, r, e1, rep_shut hp ho hx d v e'.1 q1, repL_shut hp ho hx ds r e'.2 q2⟩
end
/-- the frame in which the list at x is a list as others -/
def Fm.lend (p : Fm) (x : Addr) (hx : ∀ a k, p.pen = some (a, k) → x ≠ a) : Fm := ⟨p.pen, none, fun b => p.out b ∧ b ≠ x, fun b kd e => ⟨p.okp b kd e, (hx b kd e).symm⟩, (fun _ _ _ e => nomatch e), (fun _ _ _ _ _ _ e => nomatch e)⟩
def isSelf (o : Option (Option D)) : Bool := match o with
  | some (some .self) => true
  | _ => false
/-- the slots while the list is lent -/
def lentρ (n : Nat) (s : Pen) (ρ : Loc) : Loc := (ρ.map cleanS).set n (some (.lst (s.obj.map (·.2))))
def backE {α : Type} (ok : α → Bool) (s : Pen) (o : Out α) : Out α := match o with
  | .ok d s' => if ok d = true then .ok d { s' with obj := s.obj, ocls := s.ocls } else .bad
  | .exc c ns xs s' => if nolstL xs = true then .exc c ns xs { s' with obj := s.obj, ocls := s.ocls } else .bad
  | .bad => .bad
def kBor {α : Type} (ok : α → Bool) (n : Nat) (m : Loc → M α) : Loc → M α := fun ρ s => if (s.ocls == gro && isSelf ρ[n]?) = true then backE ok s (m (lentρ n s ρ) { s with obj := [], ocls := 0 }) else .bad
theorem run_bor {α β : Type} {R : Fm → Hp → α → β → Prop} {ok : α → Bool} {n : Nat} {t : L2.St → Hp → (β → Hp → Prop) → Prop} {m : Loc → M α}
    (hR : ∀ (p q : Fm) (H : Hp) (x : Addr) (vs : List V) (d : α) (b : β), q.pen = p.pen → (∀ a, q.out a → p.out a ∨ a = x) → H x = some (.lst vs) → ok d = true → R p H d b → R q H d b) (h : RunG G W R t m) : RunG G W R t (kBor ok n m) := by
  intro p σ H ρ s Q en pk fin
  unfold kBor at fin
  by_cases hc : ¬ (s.ocls == gro && isSelf ρ[n]?) = true
  · rw [if_neg hc] at fin; exact fin.elim
  have hc0 := Decidable.not_not.mp hc
  rw [if_pos hc0] at fin
  rw [Bool.and_eq_true] at hc0
  have hself : ρ[n]? = some (some .self) := by
    have z := hc0.2
    unfold isSelf at z
    split at z
    · assumption
    · cases z
  obtain ⟨v, hv, rv⟩ := en.2 n .self hself
  obtain ⟨x, dx, us, ea, rfl, h1, hl, hcl, rs⟩ := gro_at pk rv (beq_iff_eq.mp hc0.1)
  have hxa : ∀ a k, p.pen = some (a, k) → x ≠ a := fun a k e => p.neo a k x gro dx e ea
  have ho : p.out x := p.oko x _ dx ea
  have up : ∀ b o, H b = some o → ¬ p.out b → ¬ (p.lend x hxa).out b := fun b o _ n z => n z.1
  have en2 : EnvOk G (p.lend x hxa) H σ (lentρ n s ρ) := (en.cleanS (p := p) (q := p.lend x hxa) rfl up).setAt hv ⟨x, us, rfl, fun z => z.2 rfl, h1, repL_move (G := G.bare) (G' := G) (p := p) (q := p.lend x hxa) rfl rfl up _ _ hcl rs⟩
  have pk2 : PenOk G (p.lend x hxa) H { s with obj := [], ocls := 0 } := by
    refine ⟨fun b kd eb => ?_, (fun _ _ _ e => nomatch e), fun b hb => pk.2.2 b hb.1⟩
    rcases pk.1 b kd eb with z | ⟨c, e1, z0, z1, z2⟩
    · exact .inl z
    · exact .inr ⟨c, e1, fun z => z0 z.1, z1, z2⟩
  have nmx : ¬ (p.lend x hxa).mut x := fun z => by
    rcases z with ⟨k, z⟩ | ⟨c, d, z⟩
    · exact hxa x k z rfl
    · cases z
  have kp : ∀ {H' : Hp}, Keep (p.lend x hxa) H H' → Keep p H H' := fun k b o nb e => k b o (fun z => nb (by
    rcases z with ⟨kd, z⟩ | ⟨c, d, z⟩
    · exact .inl ⟨kd, z⟩
    · cases z)) e
  have back : ∀ {H' : Hp} {s' : Pen}, Keep (p.lend x hxa) H H' → PenOk G (p.lend x hxa) H' s' → H' x = some (.lst us) ∧ PenOk G p H' { s' with obj := s.obj, ocls := s.ocls } := fun {H' s'} k pk' => by
    have hx' : H' x = some (.lst us) := k x _ nmx h1
    refine ⟨hx', fun b kd eb => ?_, fun y c' d' ey => ?_, fun b hb => ?_⟩
    · rcases pk'.1 b kd eb with z | ⟨c, e1, z0, z1, z2⟩
      · exact .inl z
      · refine .inr ⟨c, e1, fun z => z0 ⟨z, fun w => ?_⟩, z1, z2⟩
        rcases pk.1 b kd eb with ⟨e2, _⟩ | ⟨c2, e2, y0, _, _⟩
        · rw [e1] at e2; cases e2
        · rw [e1] at e2; cases e2; exact y0 (by rw [w]; exact ho)
    · have e3 : (x, gro, dx) = (y, c', d') := Option.some.inj (ea.symm.trans ey)
      cases e3
      refine ⟨us, by rw [show objO G gro dx _ us = .lst us from if_pos rfl]; exact hx', ⟨hl, hcl, (beq_iff_eq.mp hc0.1).symm⟩, repL_keep trivial (kp k) _ _ rs⟩
    · by_cases z : b = x
      · rw [z]; exact ⟨_, hx'⟩
      · exact pk'.2.2 b ⟨hb, z⟩
  have shut : ∀ a, p.out a → (p.lend x hxa).out a ∨ a = x := fun a z => by
    by_cases w : a = x
    · exact .inr w
    · exact .inl ⟨z, w⟩
  refine h (p.lend x hxa) σ H _ _ _ en2 pk2 ?_
  cases q : m (lentρ n s ρ) { s with obj := [], ocls := 0 } with
  | bad => rw [q] at fin; exact fin.elim
  | ok d s' =>
    rw [q] at fin
    by_cases hd : ok d = true
    · have fin' : FinG G W R p σ H Q (.ok d { s' with obj := s.obj, ocls := s.ocls }) := by
        have z : backE ok s (Out.ok d s') = .ok d { s' with obj := s.obj, ocls := s.ocls } := if_pos hd
        rw [z] at fin; exact fin
      intro b H' k' pk' rb
      obtain ⟨hx', pkp⟩ := back k' pk'
      exact fin' b H' (kp k') pkp (hR (p.lend x hxa) p H' x us d b rfl shut hx' hd rb)
    · have z : backE ok s (Out.ok d s') = .bad := if_neg hd
      rw [z] at fin; exact fin.elim
  | exc c ns xs s' =>
    rw [q] at fin
    by_cases hd : nolstL xs = true
    · have fin' : FinG G W R p σ H Q (.exc c ns xs { s' with obj := s.obj, ocls := s.ocls }) := by
        have z : backE ok s (Out.exc c ns xs s') = .exc c ns xs { s' with obj := s.obj, ocls := s.ocls } := if_pos hd
        rw [z] at fin; exact fin
      intro dd H' k' pk' xk
      obtain ⟨hx', pkp⟩ := back k' pk'
      refine fin' dd H' (kp k') pkp ?_
      obtain ⟨ws, rw', xd⟩ := xk
      refine ⟨ws, repL_shut (p := p.lend x hxa) (q := p) rfl shut hx' _ _ hd rw', ?_⟩
      rcases xd with xd | ⟨b, gs, e0, e1, e2, e3, e4⟩
      · exact .inl xd
      · exact .inr ⟨b, gs, e0, e1, fun z => (shut b z).elim e2 fun z => (by rw [z, hx'] at e3; cases e3), e3, e4⟩
    · have z : backE ok s (Out.exc c ns xs s') = .bad := if_neg hd
      rw [z] at fin; exact fin.elim
/-- an expression, the list lent meanwhile -/
theorem x_bor (n : Nat) {t : TE} {m : Loc → M D} (h : DE G X W e t m) : DE G X W e t (kBor nolst n m) := ⟨h.pe, run_bor (fun p q H x vs d b hp ho hx hd r => rep_shut hp ho hx d b hd r) h.run⟩
theorem q_bor (n : Nat) {t : TT} {m : Loc → M Bool} (h : DT G X W e t m) : DT G X W e t (kBor (fun _ => true) n m) := ⟨h.pt, run_bor (fun p q H x vs d b hp ho hx hd r => r) h.run⟩
/-! #### more lists that grow -/
def listF (ds : List D) : M (List D) := match ds with
  | [x] => (match seqD x with
    | some xs => mret xs
    | none => mbad)
  | _ => mbad
def kListF (fA : Loc → M (List D)) : Loc → M (List D) := fun ρ => mbind (fA ρ) listF
theorem runf_list (ha : RunG G W (RelA G) tA fA) : RunF G W (tCB (rList K) tA) (kListF fA) := by
  intro p σ H ρ s Q e pk fin
  refine ha p σ H ρ s _ e pk ?_
  have fin' : (match obind (fA ρ s) listF with
      | .ok ds s' => ∀ H2 vs a, H a = none → Keep p H H2 → PenOk G (p.add a) H2 s' → RepL G (p.add a) H2 ds vs → H2 a = some (.lst vs) → Q (.ref a) H2
      | .exc c ns xs s' => ∀ dd H', Keep p H H' → PenOk G p H' s' → ExcOk G p H' ns xs dd → W (.ref (G.cls c)) dd σ H'
      | .bad => False) := fin
  cases q : fA ρ s with
  | bad => rw [q] at fin'; exact fin'
  | exc c ns xs s1 => rw [q] at fin'; exact fin'
  | ok ds s1 =>
    rw [q] at fin'
    intro vs H1 k1 pk1 rs
    rcases ds with _ | ⟨x, _ | ⟨y, r⟩⟩
    · exact False.elim fin'
    · rcases ex : seqD x with _ | xs
      · have z : obind (Out.ok [x] s1) listF = .bad := by simp only [obind, listF, ex]; rfl
        rw [z] at fin'; exact False.elim fin'
      · have z : obind (Out.ok [x] s1) listF = .ok xs s1 := by simp only [obind, listF, ex]; rfl
        rw [z] at fin'
        obtain ⟨v, _, rfl, rx, hz⟩ := rs
        obtain rfl := hz
        obtain ⟨k, a, us, rfl, h0, h1, r1⟩ := seqD_rep ex rx
        refine ⟨a, us, rfl, ?_, fun l hl => fresh_go k1 pk1 r1 fin' l hl⟩
        cases k
        · exact .inl (SqL.of h1)
        · exact .inr (SqT.of h1)
    · exact False.elim fin'
theorem z_growL (k : Nat) {n : Nat} {rest : List Stmt} {x : Str} {px p1 p2 p3 : Pos} {tb : TS} {mb md mr : MS} {tr : TS} (d : DS G X W (.Assign [.Name x px] (.Call (.Name "list" p2) es [] p3) p1) (tAsg (tCB (rList K) tA) (gName n)) md) (ha : DA G X W es tA fA) (b : DB G X W (rest.take k) tb mb) (r : DSs G X W (rest.drop k) tr mr) :
    DSs G X W (.Assign [.Name x px] (.Call (.Name "list" p2) es [] p3) p1 :: rest) (tSeq (tSeq (tAsg (tCB (rList K) tA) (gName n)) tb) tr) (sseq (sGrow n (kListF fA) mb) mr) := by
  have h := dss_app (db_grow (f := kListF fA) d.ps (runf_list ha.run) b) r
  rw [List.cons_append, List.take_append_drop] at h
  exact h
theorem z_growLE {n : Nat} {rest : List Stmt} {x : Str} {px p1 p2 p3 : Pos} {tb : TS} {mb md : MS} (d : DS G X W (.Assign [.Name x px] (.Call (.Name "list" p2) es [] p3) p1) (tAsg (tCB (rList K) tA) (gName n)) md) (ha : DA G X W es tA fA) (b : DB G X W rest tb mb) :
    DSs G X W (.Assign [.Name x px] (.Call (.Name "list" p2) es [] p3) p1 :: rest) (tSeq (tSeq (tAsg (tCB (rList K) tA) (gName n)) tb) tNext) (sseq (sGrow n (kListF fA) mb) zNx) := dss_all (db_grow (f := kListF fA) d.ps (runf_list ha.run) b)
end
end Tw

set_option Elab.async false
set_option linter.all false
set_option maxRecDepth 100000
set_option maxHeartbeats 4000000
set_option autoImplicit false
namespace Tw
open PySem L2 PySem.Spec PyProof.Rows
theorem room_u {k : Nat} {A : Around} (r : Room k A) : A.units + 70 < cLine := by have := r.un; omega
theorem room_v {k : Nat} {A : Around} (r : Room k A) : A.units + 65 < cLine := by have := r.un; omega
section
variable {K : PySem.W.Frag} {G : Gt} {W : WX} {X : Cx}
variable {a b c e : Expr} {es : List Expr} {ta tb te to tv ti : TE} {fa fb fe fo fv fi : Loc → M D} {pos : Pos} {tA : TA} {fA : Loc → M (List D)}
/-! ### f(..), some parameters left to their defaults -/
def kCallD (m : List D → M D) (dd : List D) (fA : Loc → M (List D)) : Loc → M D := fun ρ => mbind (fA ρ) fun ds => m (ds ++ dd)
theorem x_callD {k n j : Nat} {g : Addr} {fd : FuncData} {ps : List Str} {dd : List D} {dvs : List V} {dl : List Value} {m : List D → M D} {x : Str} {p0 : Pos} (F : FnOk X.prog X.w X.K X.mg X.base (L2.CX X.prog X.w) k g fd ps (spM G n m)) (hr : Room k X.A) (tk : Takes X W)
    (hm : X.mg x = some (.ref g)) (hk : PySem.W.keepIn X.K (.ref g) = true) (hb : L2.Binds X.K fd ps dl) (hd : Vals dvs dl) (hdd : ∀ p H, RepL G p H dd dvs) (ha : DA G X W (e :: es) tA fA) (hl : LenA fA j) (hj : j + dd.length = n)
    (hg : Gl X x := by rfl) (hdb : (x == ("__debug__" : Str)) = false := by decide) (he : starEach (e :: es) X.env = (false, eval e X.env) :: starEach es X.env := by rfl) (hpl : (backTo pos (starEach es X.env)).any (·.1) = false := by rfl) :
    DE G X W (.Call (.Name x p0) (e :: es) [] pos) (tCallSD (spM G n m) dvs (WE W) tA) (kCallD m dd fA) := by
  refine ⟨pe_callSD F hr hg hm hk hb hd (fun σ => passAt tk σ) ha.pa hdb he hpl, fun p σ H ρ s Q en pk fin => ?_⟩
  have fin' : FinG G W (RelE G) p σ H Q (obind (fA ρ s) fun ds => m (ds ++ dd)) := fin
  refine ha.run p σ H ρ s _ en pk ?_
  cases h : fA ρ s with
  | ok ds s1 =>
    rw [h] at fin'
    intro vs H1 k1 pk1 rs
    have rs2 := repL_app rs (hdd p H1)
    exact ⟨by rw [← repL_len rs2, List.length_append, hl ρ s ds s1 h]; exact hj, p, ds ++ dd, s1, rs2, pk1, (FinG.keep k1 fin').wx fun _ _ _ z => z⟩
  | exc c ns xs s1 => rw [h] at fin'; exact fin'
  | bad => rw [h] at fin'; exact fin'
/-! ### tuple * int -/
def repT' (x y : D) : M D := match x, y with
  | .tup (z :: zs), .int k => if decide (2 ≤ k ∧ k ≤ 1000 ∧ (z :: zs).length ≤ 1000) = true then mret (.tup (repD (z :: zs) k)) else mbad
  | _, _ => mbad
theorem cr_repT (hK : X.K = K) : OpR X (binaryOp .Mult) (rRepT K) := by subst hK; exact op_repT
theorem prim_repT : Prim2 G (rRepT K) repT' := by
  intro W p σ H s x y vx vy Q pk rx ry fin
  unfold repT' at fin
  split at fin
  · rename_i z zs k
    split at fin
    · rename_i hd
      obtain ⟨h1, h2, h3⟩ := of_decide_eq_true hd
      obtain ⟨a, us, rfl, a0, a1, q1⟩ := rx
      obtain rfl : vy = .int k := ry
      have hl := repL_len q1
      refine ⟨a, k, us, rfl, rfl, SqT.of a1, (fun e => by rw [e] at hl; cases hl), h1, h2, by rw [← hl]; exact h3, fun l hl => ?_⟩
      have kk : Keep p H (upd H l (.tup (List.replicate k.toNat us).flatten)) := Keep.new hl
      exact fin _ _ kk (pk.new hl) ⟨l, _, rfl, pk.free hl, upd_same, repL_keep pk.at kk _ _ (repL_rep q1 _)⟩
    · exact False.elim fin
  · exact False.elim fin
/-! ### what may be a list or a tuple, walked -/
def asS (d : D) : M (List D) := match seqD d with
  | some xs => mret xs
  | none => mbad
def iS (fe : Loc → M D) : Loc → M (List D) := fun ρ => mbind (fe ρ) asS
theorem i_seq {tg l : Expr} (hK : X.K = K) (hl : DE G X W l te fe) : DI G X W tg l (fun σ H R => iList K te σ H R ∨ iTup K te σ H R) (iS fe) := by
  subst hK
  refine ⟨⟨fun pins s σ H R I h => h.elim (fun z => (pi_list hl.pe).run pins s σ H R I z) fun z => (pi_tup hl.pe).run pins s σ H R I z⟩, fun p σ H ρ s Q en pk fin => ?_⟩
  have fin' : FinG G W (RelI G) p σ H Q (obind (fe ρ s) asS) := fin
  have one : ∀ (as : D → M (List D)), obind (fe ρ s) asS = obind (fe ρ s) as → FinG G W (RelI G) p σ H Q (mbind (fe ρ) as s) := fun as e => by
    show FinG G W (RelI G) p σ H Q (obind (fe ρ s) as)
    rw [← e]; exact fin'
  cases q : fe ρ s with
  | bad => rw [q] at fin'; exact fin'.elim
  | exc c ns xs s1 => exact .inl ((di_list (X := X) (tg := tg) rfl hl).run p σ H ρ s Q en pk (one asL (by rw [q]; rfl)))
  | ok d s1 =>
    cases d <;> first
      | exact .inl ((di_list (X := X) (tg := tg) rfl hl).run p σ H ρ s Q en pk (one asL (by rw [q]; rfl)))
      | exact .inr ((di_tup (X := X) (tg := tg) rfl hl).run p σ H ρ s Q en pk (one asT (by rw [q]; rfl)))
end
end Tw

set_option Elab.async false
set_option linter.all false
set_option maxRecDepth 100000
set_option maxHeartbeats 4000000
set_option autoImplicit false
/-! ### mathematics over mirrors -/
namespace Tw
open PySem L2
/-! #### plain data -/
mutual
def plainD : D → Bool
  | .non => true
  | .bl _ => true
  | .int _ => true
  | .str x => PyData.strOk x
  | .lst xs => plainL xs
  | .tup xs => plainL xs
  | _ => false
def plainL : List D → Bool
  | [] => true
  | d :: ds => plainD d && plainL ds
end
mutual
theorem plain_toP : ∀ d : D, plainD d = true → ∃ x, toP d = some x ∧ x.canLay0 = true ∧ x.depth = dpt d
  | .non, _ => ⟨_, rfl, rfl, rfl⟩
  | .bl _, _ => ⟨_, rfl, rfl, rfl⟩
  | .int _, _ => ⟨_, rfl, rfl, rfl⟩
  | .str x, h => ⟨_, rfl, h, rfl⟩
  | .lst xs, h => by
    obtain ⟨ys, e, a, b⟩ := plainL_toP xs h
    exact ⟨.list ys, by show (toPL xs).map _ = _; rw [e]; rfl, a, by show PyData.depthAll ys + 1 = dptL xs + 1; rw [b]⟩
  | .tup xs, h => by
    obtain ⟨ys, e, a, b⟩ := plainL_toP xs h
    exact ⟨.tuple ys, by show (toPL xs).map _ = _; rw [e]; rfl, a, by show PyData.depthAll ys + 1 = dptL xs + 1; rw [b]⟩
  | .ty _, h => by cases h
  | .cls _, h => by cases h
  | .ins _ _ _, h => by cases h
  | .err _ _ _, h => by cases h
  | .pen, h => by cases h
  | .bag, h => by cases h
  | .self, h => by cases h
theorem plainL_toP : ∀ ds : List D, plainL ds = true → ∃ xs, toPL ds = some xs ∧ PyData.canLayAll0 xs = true ∧ PyData.depthAll xs = dptL ds
  | [], _ => ⟨[], rfl, rfl, rfl⟩
  | d :: ds, h => by
    have h' : (plainD d && plainL ds) = true := h
    rw [Bool.and_eq_true] at h'
    obtain ⟨x, e, a, b⟩ := plain_toP d h'.1
    obtain ⟨xs, e', a', b'⟩ := plainL_toP ds h'.2
    exact ⟨x :: xs, by unfold toPL; rw [e, e'], by show (x.canLay0 && PyData.canLayAll0 xs) = true; rw [a, a']; rfl, by show max x.depth (PyData.depthAll xs) = max (dpt d) (dptL ds); rw [b, b']⟩
end
/-- == of plain data -/
def eqvD (x y : D) : Bool := match toP x, toP y with
  | some a, some b => PyData.eqv a b
  | _, _ => false
def eqvL (xs ys : List D) : Bool := match toPL xs, toPL ys with
  | some a, some b => PyData.eqvAll a b
  | _, _ => false
theorem eqA_plain {x y : D} (hx : plainD x = true) (hy : plainD y = true) (dx : dpt x ≤ 64) (dy : dpt y ≤ 64) : eqA x y = mret (.bl (eqvD x y)) := by
  obtain ⟨a, ea, la, da⟩ := plain_toP x hx
  obtain ⟨b, eb, lb, db⟩ := plain_toP y hy
  have gen : eqDat x y = mret (.bl (eqvD x y)) := by
    unfold eqDat eqvD
    rw [ea, eb]
    dsimp only
    rw [if_pos]
    show (SeqAt.shaped a && SeqAt.shaped b) = true
    unfold SeqAt.shaped
    rw [la, lb, da, db, decide_eq_true dx, decide_eq_true dy]
    rfl
  cases x <;> cases y <;> first
    | exact gen
    | (rename_i i j; show mret (D.bl (decide (i = j))) = mret (.bl (i == j)); first | rfl | (by_cases h : i = j <;> simp [h]))
theorem neA_plain {x y : D} (hx : plainD x = true) (hy : plainD y = true) (dx : dpt x ≤ 64) (dy : dpt y ≤ 64) : neA x y = mret (.bl (!eqvD x y)) := by
  obtain ⟨a, ea, la, da⟩ := plain_toP x hx
  obtain ⟨b, eb, lb, db⟩ := plain_toP y hy
  have gen : neDat x y = mret (.bl (!eqvD x y)) := by
    unfold neDat eqvD
    rw [ea, eb]
    dsimp only
    rw [if_pos]
    show (SeqAt.shaped a && SeqAt.shaped b) = true
    unfold SeqAt.shaped
    rw [la, lb, da, db, decide_eq_true dx, decide_eq_true dy]
    rfl
  cases x <;> cases y <;> first
    | exact gen
    | (rename_i i j; show mret (D.bl (!decide (i = j))) = mret (.bl (!(i == j))); first | rfl | (by_cases h : i = j <;> simp [h]))
theorem eqvD_refl {x : D} (hx : plainD x = true) : eqvD x x = true := by
  obtain ⟨a, ea, la, _⟩ := plain_toP x hx
  unfold eqvD
  rw [ea]
  exact SeqAt.eqv_refl a la
theorem eqA_str (i j : Str) : eqA (.str i) (.str j) = mret (.bl (decide (i = j))) := rfl
theorem neA_str (i j : Str) : neA (.str i) (.str j) = mret (.bl (!decide (i = j))) := rfl
theorem eqvD_int (i j : Int) : eqvD (.int i) (.int j) = decide (i = j) := by
  show (i == j) = _
  by_cases h : i = j <;> simp [h]
theorem eqvD_bl (i j : Bool) : eqvD (.bl i) (.bl j) = decide (i = j) := by cases i <;> cases j <;> rfl
theorem eqvD_str (i j : Str) : eqvD (.str i) (.str j) = decide (i = j) := by
  show (i == j) = _
  by_cases h : i = j <;> simp [h]
theorem eqvD_lst {xs ys : List D} : eqvD (.lst xs) (.lst ys) = eqvL xs ys := by
  unfold eqvD eqvL
  show (match (toPL xs).map PyData.list, (toPL ys).map PyData.list with | some a, some b => PyData.eqv a b | _, _ => false) = _
  cases toPL xs <;> cases toPL ys <;> rfl
theorem eqvD_tup {xs ys : List D} : eqvD (.tup xs) (.tup ys) = eqvL xs ys := by
  unfold eqvD eqvL
  show (match (toPL xs).map PyData.tuple, (toPL ys).map PyData.tuple with | some a, some b => PyData.eqv a b | _, _ => false) = _
  cases toPL xs <;> cases toPL ys <;> rfl
theorem eqvD_lt {xs ys : List D} : eqvD (.lst xs) (.tup ys) = false := by
  unfold eqvD
  show (match (toPL xs).map PyData.list, (toPL ys).map PyData.tuple with | some a, some b => PyData.eqv a b | _, _ => false) = _
  cases toPL xs <;> cases toPL ys <;> rfl
theorem eqvD_tl {xs ys : List D} : eqvD (.tup xs) (.lst ys) = false := by
  unfold eqvD
  show (match (toPL xs).map PyData.tuple, (toPL ys).map PyData.list with | some a, some b => PyData.eqv a b | _, _ => false) = _
  cases toPL xs <;> cases toPL ys <;> rfl
theorem eqvL_nil : eqvL [] [] = true := rfl
theorem eqvL_cons {x y : D} {xs ys : List D} (hx : plainL xs = true) (hy : plainL ys = true) : eqvL (x :: xs) (y :: ys) = (eqvD x y && eqvL xs ys) := by
  obtain ⟨a, ea, _, _⟩ := plainL_toP xs hx
  obtain ⟨b, eb, _, _⟩ := plainL_toP ys hy
  have h1 : toPL (x :: xs) = (match toP x with | some u => some (u :: a) | none => none) := by
    show (match toP x, toPL xs with | some u, some us => some (u :: us) | _, _ => none) = _
    rw [ea]
    cases toP x <;> rfl
  have h2 : toPL (y :: ys) = (match toP y with | some u => some (u :: b) | none => none) := by
    show (match toP y, toPL ys with | some u, some us => some (u :: us) | _, _ => none) = _
    rw [eb]
    cases toP y <;> rfl
  unfold eqvL eqvD
  rw [h1, h2, ea, eb]
  cases toP x <;> cases toP y <;> rfl
/-! #### comprehensions -/
section
variable {gm : D → Loc → Option Loc} {mt : Loc → M Bool} {me : Loc → M D} {mb : MS} {fi : Loc → M (List D)} {vs : List Nat}
theorem cl_pure (f : D → D) (t : D → Bool) {ρ : Loc} : ∀ (ds acc : List D), (∀ d ∈ ds, ∃ ρ1, gm d ρ = some ρ1 ∧ mt ρ1 = mret (t d) ∧ (t d = true → me ρ1 = mret (f d))) → acc.length + ds.length ≤ 100000 → cloop gm mt me ds ρ acc = mret (acc ++ (ds.filter t).map f)
  | [], acc, _, _ => by show mret acc = _; simp
  | d :: ds, acc, h, hl => by
    obtain ⟨ρ1, e1, e2, e3⟩ := h d List.mem_cons_self
    rw [List.length_cons] at hl
    show (match gm d ρ with | none => mbad | some ρ1 => _) = _
    rw [e1]
    dsimp only
    rw [e2]
    show (if t d = true then (mbind (nox (me ρ1)) fun y => if decide (acc.length < 100000) = true then cloop gm mt me ds ρ (acc ++ [y]) else mbad) else cloop gm mt me ds ρ acc) = _
    by_cases ht : t d = true
    · rw [if_pos ht, e3 ht]
      show (if decide (acc.length < 100000) = true then cloop gm mt me ds ρ (acc ++ [f d]) else mbad) = _
      rw [if_pos (decide_eq_true (by omega)), cl_pure f t ds _ (fun x hx => h x (List.mem_cons_of_mem _ hx)) (by rw [List.length_append]; show acc.length + 1 + _ ≤ _; omega)]
      rw [List.filter_cons_of_pos ht, List.map_cons, List.append_assoc]
      rfl
    · rw [if_neg ht, cl_pure f t ds _ (fun x hx => h x (List.mem_cons_of_mem _ hx)) (by omega), List.filter_cons_of_neg ht]
theorem lc_test (f : D → D) (t : D → Bool) {ρ : Loc} {ds : List D} (hf : fi ρ = mret ds) (hl : ds.length ≤ 100000) (h : ∀ d ∈ ds, ∃ ρ1, gm d (wipeL ρ vs) = some ρ1 ∧ mt ρ1 = mret (t d) ∧ (t d = true → me ρ1 = mret (f d))) :
    kLc fi gm mt me vs ρ = mret (.lst ((ds.filter t).map f)) := by
  show mbind (fi ρ) (fun ds => mbind (cloop gm mt me ds (wipeL ρ vs) []) lstD) = _
  rw [hf, mbind_ret, cl_pure f t ds [] h (by simpa using hl), mbind_ret, List.nil_append]
  show (if decide (((ds.filter t).map f).length ≤ 100000) = true then _ else _) = _
  rw [if_pos (decide_eq_true (by rw [List.length_map]; exact Nat.le_trans (List.length_filter_le _ _) hl))]
theorem lc_map (f : D → D) {ρ : Loc} {ds : List D} (hf : fi ρ = mret ds) (hl : ds.length ≤ 100000) (h : ∀ d ∈ ds, ∃ ρ1, gm d (wipeL ρ vs) = some ρ1 ∧ me ρ1 = mret (f d)) :
    kLc fi gm (fun _ => mret true) me vs ρ = mret (.lst (ds.map f)) := by
  have z := lc_test (mt := fun _ => mret true) f (fun _ => true) hf hl (fun d hd => by
    obtain ⟨ρ1, a, b⟩ := h d hd
    exact ⟨ρ1, a, rfl, fun _ => b⟩)
  rw [List.filter_eq_self.mpr fun _ _ => rfl] at z
  exact z
/-- with draws within: what holds of each -/
theorem cl_any (P : D → Prop) (I : Pen → Prop) {ρ : Loc} : ∀ (ds acc : List D) (s : Pen), (∀ d ∈ ds, ∀ s, I s → ∃ ρ1 y s', gm d ρ = some ρ1 ∧ me ρ1 s = .ok y s' ∧ P y ∧ I s') → acc.length + ds.length ≤ 100000 → I s →
    ∃ ys s', cloop gm (fun _ => mret true) me ds ρ acc s = .ok (acc ++ ys) s' ∧ ys.length = ds.length ∧ (∀ y ∈ ys, P y) ∧ I s'
  | [], acc, s, _, _, hs => ⟨[], s, by simp [cloop, mret_ap], rfl, fun _ h => (List.not_mem_nil h).elim, hs⟩
  | d :: ds, acc, s, h, hl, hs => by
    obtain ⟨ρ1, y, s1, e1, e2, p1, i1⟩ := h d List.mem_cons_self s hs
    rw [List.length_cons] at hl
    obtain ⟨ys, s2, e3, l3, p3, i3⟩ := cl_any P I ds (acc ++ [y]) s1 (fun x hx => h x (List.mem_cons_of_mem _ hx)) (by rw [List.length_append]; show acc.length + 1 + _ ≤ _; omega) i1
    refine ⟨y :: ys, s2, ?_, by rw [List.length_cons, List.length_cons, l3], fun z hz => ?_, i3⟩
    · show (match gm d ρ with | none => mbad | some ρ1 => _) s = _
      rw [e1]
      show obind (nox (me ρ1) s) (fun y => if decide (acc.length < 100000) = true then cloop gm (fun _ => mret true) me ds ρ (acc ++ [y]) else mbad) = _
      rw [nox_ok e2]
      show (if decide (acc.length < 100000) = true then cloop gm (fun _ => mret true) me ds ρ (acc ++ [y]) else mbad) s1 = _
      rw [if_pos (decide_eq_true (by omega)), e3, List.append_assoc]
      rfl
    · rcases List.mem_cons.mp hz with rfl | hz
      · exact p1
      · exact p3 z hz
theorem lc_any (P : D → Prop) (I : Pen → Prop) {ρ : Loc} {ds : List D} {s s0 : Pen} (hf : fi ρ s0 = .ok ds s) (hl : ds.length ≤ 100000) (hs : I s) (h : ∀ d ∈ ds, ∀ s, I s → ∃ ρ1 y s', gm d (wipeL ρ vs) = some ρ1 ∧ me ρ1 s = .ok y s' ∧ P y ∧ I s') :
    ∃ ys s', kLc fi gm (fun _ => mret true) me vs ρ s0 = .ok (.lst ys) s' ∧ ys.length = ds.length ∧ (∀ y ∈ ys, P y) ∧ I s' := by
  obtain ⟨ys, s', e, l, p, i⟩ := cl_any P I ds [] s h (by simpa using hl) hs
  refine ⟨ys, s', ?_, l, p, i⟩
  show obind (fi ρ s0) (fun ds => mbind (cloop gm (fun _ => mret true) me ds (wipeL ρ vs) []) lstD) = _
  rw [hf]
  show obind (cloop gm (fun _ => mret true) me ds (wipeL ρ vs) [] s) lstD = _
  rw [e, List.nil_append]
  show (if decide (ys.length ≤ 100000) = true then mret (D.lst ys) else mbad) s' = _
  rw [if_pos (decide_eq_true (by omega))]
  rfl
/-! #### loops -/
/-- every turn goes on -/
theorem sl_inv (I : Loc → Pen → Prop) : ∀ (ds : List D) (ρ : Loc) (s : Pen), I ρ s → (∀ d ∈ ds, ∀ ρ s, I ρ s → ∃ ρ1 ρ2 s2, gm d ρ = some ρ1 ∧ mb ρ1 s = .nx ρ2 s2 ∧ I ρ2 s2) → ∃ ρ' s', sloop gm mb ds ρ s = .nx ρ' s' ∧ I ρ' s'
  | [], ρ, s, hi, _ => ⟨ρ, s, rfl, hi⟩
  | d :: ds, ρ, s, hi, h => by
    obtain ⟨ρ1, ρ2, s2, e1, e2, i2⟩ := h d List.mem_cons_self ρ s hi
    obtain ⟨ρ', s', e3, i3⟩ := sl_inv I ds ρ2 s2 i2 fun x hx => h x (List.mem_cons_of_mem _ hx)
    refine ⟨ρ', s', ?_, i3⟩
    show (match gm d ρ with | none => OutS.bad | some ρ1 => _) = _
    rw [e1]
    dsimp only
    rw [e2]
    exact e3
theorem sfor_inv (I : Loc → Pen → Prop) {ρ : Loc} {ds : List D} {s0 s : Pen} (hf : fi ρ s0 = .ok ds s) (hi : I ρ s) (h : ∀ d ∈ ds, ∀ ρ s, I ρ s → ∃ ρ1 ρ2 s2, gm d ρ = some ρ1 ∧ mb ρ1 s = .nx ρ2 s2 ∧ I ρ2 s2) : ∃ ρ' s', sfor fi gm mb ρ s0 = .nx ρ' s' ∧ I ρ' s' := by
  obtain ⟨ρ', s', e, i⟩ := sl_inv I ds ρ s hi h
  refine ⟨ρ', s', ?_, i⟩
  show sof (fi ρ s0) ρ _ = _
  rw [hf]
  exact e
end
/-! #### all, any -/
theorem bls_map (p : D → Bool) : ∀ ds : List D, bls (ds.map fun d => D.bl (p d)) = some (ds.map p)
  | [] => rfl
  | d :: ds => by
    show (match bls (ds.map fun d => D.bl (p d)) with | some bs => some (p d :: bs) | none => none) = _
    rw [bls_map p ds]
    rfl
theorem all_map (p : D → Bool) (ds : List D) : allD [.lst (ds.map fun d => D.bl (p d))] = mret (.bl (ds.all p)) := by
  show (match bls (ds.map fun d => D.bl (p d)) with | some bs => (mret (D.bl (bs.all id)) : M D) | none => mbad) = _
  rw [bls_map]
  show mret (D.bl ((ds.map p).all id)) = _
  rw [List.all_map]
  rfl
/-! #### draws, their results told by functions -/
theorem bl_and (a b : Bool) : (a && b) = true ↔ a = true ∧ b = true := Bool.and_eq_true_iff
/-! #### isinstance(x, (list, tuple)) -/
section
variable {ans : String ⊕ Nat → String ⊕ Nat → Option Bool}
theorem tyAns_b {a T : String} (h : kitB a T = some (subT a T)) : tyAns ans (.inl a) (.inl T) = some (subT a T) := by
  show (if decide (kitB a T = some (subT a T)) = true then some (subT a T) else none) = _
  rw [if_pos (decide_eq_true h)]
theorem any_b {a T : String} {r : List D} {b : Bool} (h : kitB a T = some (subT a T)) (e : (if subT a T = true then some true else anyR ans (.inl a) r) = some b) : anyR ans (.inl a) (.ty T :: r) = some b := by
  show (match tyAns ans (.inl a) (.inl T) with | some true => some true | some false => anyR ans (.inl a) r | none => none) = _
  rw [tyAns_b h, ← e]
  cases subT a T <;> rfl
theorem isiT_b {x : D} {a : String} {b : Bool} (ht : tyTag x = some (.inl a)) (h1 : kitB a "list" = some (subT a "list")) (h2 : kitB a "tuple" = some (subT a "tuple")) (e : (subT a "list" || subT a "tuple") = b) : isiT ans [x, .tup [.ty "list", .ty "tuple"]] = mret (.bl b) := by
  have h : anyR ans (.inl a) [.ty "list", .ty "tuple"] = some b := by
    refine any_b h1 ?_
    rw [any_b (r := []) (b := subT a "tuple") h2 (by cases subT a "tuple" <;> rfl), ← e]
    cases subT a "list" <;> rfl
  show (match tyTag x with | some t => (match anyR ans t [.ty "list", .ty "tuple"] with | some b => (mret (D.bl b) : M D) | none => mbad) | none => mbad) = _
  rw [ht]
  dsimp only
  rw [h]
theorem seqT_lst (xs : List D) : isiT ans [.lst xs, .tup [.ty "list", .ty "tuple"]] = mret (.bl true) := isiT_b (a := "list") rfl (by decide +kernel) (by decide +kernel) (by decide +kernel)
theorem seqT_tup (xs : List D) : isiT ans [.tup xs, .tup [.ty "list", .ty "tuple"]] = mret (.bl true) := isiT_b (a := "tuple") rfl (by decide +kernel) (by decide +kernel) (by decide +kernel)
theorem seqT_non : isiT ans [.non, .tup [.ty "list", .ty "tuple"]] = mret (.bl false) := isiT_b (a := "NoneType") rfl (by decide +kernel) (by decide +kernel) (by decide +kernel)
theorem seqT_int (i : Int) : isiT ans [.int i, .tup [.ty "list", .ty "tuple"]] = mret (.bl false) := isiT_b (a := "int") rfl (by decide +kernel) (by decide +kernel) (by decide +kernel)
theorem seqT_bl (i : Bool) : isiT ans [.bl i, .tup [.ty "list", .ty "tuple"]] = mret (.bl false) := isiT_b (a := "bool") rfl (by decide +kernel) (by decide +kernel) (by decide +kernel)
theorem seqT_str (x : Str) : isiT ans [.str x, .tup [.ty "list", .ty "tuple"]] = mret (.bl false) := isiT_b (a := "str") rfl (by decide +kernel) (by decide +kernel) (by decide +kernel)
theorem lenD_seq {d : D} {xs : List D} (h : seqD d = some xs) : lenD [d] = mret (.int (xs.length : Nat)) := by
  cases d <;> cases h <;> rfl
theorem nl_tuple : isiB [.lst ([] : List D), .ty "tuple"] = mret (.bl false) := isi_of (a := "list") rfl (by decide +kernel)
theorem il_tuple (xs : List D) : isiB [.lst xs, .ty "tuple"] = mret (.bl false) := isi_of (a := "list") rfl (by decide +kernel)
theorem in_bool : isiB [.non, .ty "bool"] = mret (.bl false) := isi_of (a := "NoneType") rfl (by decide +kernel)
theorem is_bool (x : Str) : isiB [.str x, .ty "bool"] = mret (.bl false) := isi_of (a := "str") rfl (by decide +kernel)
theorem it_bool (xs : List D) : isiB [.tup xs, .ty "bool"] = mret (.bl false) := isi_of (a := "tuple") rfl (by decide +kernel)
theorem il_bool (xs : List D) : isiB [.lst xs, .ty "bool"] = mret (.bl false) := isi_of (a := "list") rfl (by decide +kernel)
end
/-! #### rows of whole numbers -/
abbrev is (ns : List Int) : List D := ns.map D.int
theorem clear_is : ∀ ns : List Int, clearL (is ns) = true
  | [] => rfl
  | n :: ns => clear_is ns
theorem plain_is : ∀ ns : List Int, plainL (is ns) = true
  | [] => rfl
  | n :: ns => plain_is ns
theorem dpt_is : ∀ ns : List Int, dptL (is ns) = 0
  | [] => rfl
  | n :: ns => by show max 0 (dptL (is ns)) = 0; rw [dpt_is]; rfl
end Tw

set_option Elab.async false
set_option linter.all false
set_option maxRecDepth 100000
set_option maxHeartbeats 4000000
set_option autoImplicit false
namespace Tw
open PySem L2
local macro_rules | `(tactic| walk_at "sm") => `(tactic| first | assumption | exact Sm.lit200 (by decide) | (refine Sm.mul ?_ ?_ <;> walk_at "sm") | (refine Sm.add2 ?_ ?_ <;> walk_at "sm") | (refine Sm.sub2 ?_ ?_ <;> walk_at "sm") | (refine Sm.neg ?_; walk_at "sm"))
local macro_rules | `(tactic| walk_at "mo") => `(tactic| (refine mulOk_any (n := ?nn) (m := ?mm) ?_ ?_ ?_ <;> first | walk_at "sm" | decide))
local macro_rules | `(tactic| walk_at "ds") => `(tactic| first | assumption | walk_at "mo" | decide | omega)
local macro_rules | `(tactic| walk_at "tw") => `(tactic| simp (disch := walk_at "ds") only [mdef, startL, sseq, zNx, zIf, zRet, zRetN, zEx, zBk, zCt, zRaise, zRaiseN, sasg, spar, spar3, sof_ret, sof_ok, mret_ap, mbind_ap, obind_ok, mbind_ret, mbind_bad, kC, kOp, kUn, kB, kAnd, kOr, kNot, kAndV, kOrV, kNotV, kIf, kCh, aNil, aCons, kCall, kMk, kMkV, kCmS, kMeth, kProp, kFld, iL, iT, iR1, iR2, mvar, gnm, gtm, glm, gem, gcn, gnl, asB, asL, asT, int2, int2c, addIL, addI, subI, mul_eq, fdv_eq, fdv_64, fmd_eq, ne_eq, not_false_eq_true, Int.reduceEq, Nat.reduceLeDiff, Int.reduceAdd, Int.reduceNeg, Int.reduceLT, Int.reduceLE, Int.reduceSub, Nat.reduceEqDiff, p9, p15, p18, p20, p30, p6, negI, ltI, leI, gtI, geI, eqA_int, eqA_bl, neA_int, neA_bl, isBo, notBo, isNo, notNo, tupD, lstD, itemD, gcdD, gcd4D, intD, absD, lenD, listD, tupleD, penGet, penPut, Pen.get, Pen.put, bagGet, bagPut, Pen.bget, Pen.bput, objPut,
  isI_ins, at0, at1, at2, isiA_int, isiA_bl, isiA_non, isiA_str, isiA_tup, isiA_lst, ii_int, ii_bool, ib_int, ib_bool, in_int, is_int, it_int, il_int, it_tuple, nox_ret, nox_ok,
  List.map_cons, List.map_nil, List.length_cons, List.length_nil, List.cons_append, List.nil_append, List.append_nil, List.getElem?_cons_zero, List.getElem?_cons_succ, List.set_cons_zero, List.set_cons_succ, List.replicate_succ, List.replicate_zero, Nat.reduceSub, Nat.reduceAdd, if_true, if_false, decide_eq_true_eq, Bool.not_eq_true', Bool.true_eq_false, Bool.false_eq_true, reduceIte, decide_true, decide_false, Bool.not_true, Bool.not_false, ite_true, ite_false, List.length_map, beq_self_eq_true, Bool.and_self, Bool.true_and, Bool.and_true, Bool.and_false, Bool.false_and, *])
namespace Bag
def b_take_0 : MS := (zIf (kB (kOp gtI (bagGet (mvar 0) .rest) (kC (.int 0)))) (sseq (sasg (kOp fmdI (kCall intD (aCons (bagGet (mvar 0) .rest) aNil)) (mvar 1)) (gnm 2)) (sseq (bagPut (mvar 0) (kOp fdvI (bagGet (mvar 0) .rest) (mvar 1)) .rest) (zRet (mvar 2)))) zNx)
def b_take_1 : MS := (bagPut (mvar 0) (kOp addIL (bagGet (mvar 0) .turn) (kC (.int 1))) .turn)
def b_take_2 : MS := (bagPut (mvar 0) (kOp fmdI (kCall intD (aCons (kOp addIL (kOp addIL (kOp mulI (bagGet (mvar 0) .seed) (kC (.int 48271))) (kOp mulI (kC (.int 11)) (bagGet (mvar 0) .turn))) (kC (.int 7))) aNil)) (kC (.int 2147483647))) .seed)
def b_take_3 : MS := (zRet (kOp fmdI (kOp fdvI (kOp fmdI (kCall intD (aCons (kOp mulI (bagGet (mvar 0) .seed) (kC (.int 16807))) aNil)) (kC (.int 2147483629))) (kC (.int 64))) (mvar 1)))
def b_take : MS := (sseq b_take_0 (sseq b_take_1 (sseq b_take_2 b_take_3)))
def m_take : List D → M D := mdef 3 b_take
def b_of : MS := (zRet (kOp itemD (mvar 1) (kCall m_take (aCons (mvar 0) (aCons (kCall lenD (aCons (mvar 1) aNil)) aNil)))))
def m_of : List D → M D := mdef 2 b_of
theorem take_ok (s : Pen) (many : Int) (h : 0 < many) (h9 : many.natAbs.log2 < 9000) : ∃ d s', m_take [.bag, .int many] s = .ok (.int d) s' ∧ 0 ≤ d ∧ d < many ∧ s'.obj = s.obj ∧ s'.ocls = s.ocls := by
  have h2 : many ≠ 0 := by omega
  by_cases h1 : 0 < s.rest
  · refine ⟨s.rest.fmod many, { s with rest := s.rest.fdiv many }, mdef_ret ?_, Int.fmod_nonneg_of_pos _ h, Int.fmod_lt_of_pos _ h, rfl, rfl⟩
    unfold b_take b_take_0
    walk_at "tw"
  · have m1 : mulOk s.seed 48271 = true := mulOk_r (by decide)
    have m2 : mulOk 11 (s.turn + 1) = true := mulOk_l (by decide)
    have m3 : mulOk ((s.seed * 48271 + 11 * (s.turn + 1) + 7).fmod 2147483647) 16807 = true := mulOk_r (by decide)
    have h3 : (2147483629 : Int) ≠ 0 := by decide
    have h4 : (2147483647 : Int) ≠ 0 := by decide
    refine ⟨((((s.seed * 48271 + 11 * (s.turn + 1) + 7).fmod 2147483647 * 16807).fmod 2147483629).fdiv 64).fmod many, { s with turn := s.turn + 1, seed := (s.seed * 48271 + 11 * (s.turn + 1) + 7).fmod 2147483647 }, mdef_ret ?_, Int.fmod_nonneg_of_pos _ h, Int.fmod_lt_of_pos _ h, rfl, rfl⟩
    unfold b_take b_take_0 b_take_1 b_take_2 b_take_3
    walk_at "tw"
theorem of_ok (s : Pen) (xs : List D) (h : 0 < xs.length) (hl : xs.length ≤ 1000) : ∃ d s', m_of [.bag, .lst xs] s = .ok d s' ∧ d ∈ xs ∧ s'.obj = s.obj ∧ s'.ocls = s.ocls := by
  have hlog : ((xs.length : Nat) : Int).natAbs.log2 < 9000 := by
    have : ((xs.length : Nat) : Int).natAbs ≤ 1000 := by omega
    exact Nat.lt_of_le_of_lt (log2_le this) (by decide)
  obtain ⟨d, s1, e1, h0, h1, h2⟩ := take_ok s (xs.length : Nat) (by omega) hlog
  obtain ⟨j, rfl⟩ := Int.eq_ofNat_of_zero_le h0
  have hj : j < xs.length := by omega
  have hat : atI xs ((j : Nat) : Int) = some xs[j] := atI_nat (List.getElem?_eq_some_iff.mpr ⟨hj, rfl⟩)
  refine ⟨xs[j], s1, mdef_ret ?_, List.getElem_mem _, h2⟩
  unfold b_of
  walk_at "tw"
end Bag
end Tw

set_option Elab.async false
set_option linter.all false
set_option maxRecDepth 100000
set_option maxHeartbeats 4000000
set_option autoImplicit false
namespace Tw
open PySem L2
local macro_rules | `(tactic| walk_at "sm") => `(tactic| first | assumption | exact Sm.lit200 (by decide) | (refine Sm.mul ?_ ?_ <;> walk_at "sm") | (refine Sm.add2 ?_ ?_ <;> walk_at "sm") | (refine Sm.sub2 ?_ ?_ <;> walk_at "sm") | (refine Sm.neg ?_; walk_at "sm"))
local macro_rules | `(tactic| walk_at "mo") => `(tactic| (refine mulOk_any (n := ?nn) (m := ?mm) ?_ ?_ ?_ <;> first | walk_at "sm" | decide))
local macro_rules | `(tactic| walk_at "ds") => `(tactic| first | assumption | walk_at "mo" | decide | omega)
local macro_rules | `(tactic| walk_at "tw") => `(tactic| simp (disch := walk_at "ds") only [mdef, startL, sseq, zNx, zIf, zRet, zRetN, zEx, zBk, zCt, zRaise, zRaiseN, sasg, spar, spar3, sof_ret, sof_ok, mret_ap, mbind_ap, obind_ok, mbind_ret, mbind_bad, kC, kOp, kUn, kB, kAnd, kOr, kNot, kAndV, kOrV, kNotV, kIf, kCh, aNil, aCons, kCall, kMk, kMkV, kCmS, kMeth, kProp, kFld, iL, iT, iR1, iR2, mvar, gnm, gtm, glm, gem, gcn, gnl, asB, asL, asT, int2, int2c, addIL, addI, subI, mul_eq, fdv_eq, fdv_64, fmd_eq, ne_eq, not_false_eq_true, Int.reduceEq, Nat.reduceLeDiff, Int.reduceAdd, Int.reduceNeg, Int.reduceLT, Int.reduceLE, Int.reduceSub, Nat.reduceEqDiff, p9, p15, p18, p20, p30, p6, negI, ltI, leI, gtI, geI, eqA_int, eqA_bl, neA_int, neA_bl, isBo, notBo, isNo, notNo, tupD, lstD, itemD, gcdD, gcd4D, intD, absD, lenD, listD, tupleD, penGet, penPut, Pen.get, Pen.put, bagGet, bagPut, Pen.bget, Pen.bput, objPut,
  isI_ins, at0, at1, at2, isiA_int, isiA_bl, isiA_non, isiA_str, isiA_tup, isiA_lst, ii_int, ii_bool, ib_int, ib_bool, in_int, is_int, it_int, il_int, it_tuple, nox_ret, nox_ok,
  List.map_cons, List.map_nil, List.length_cons, List.length_nil, List.cons_append, List.nil_append, List.append_nil, List.getElem?_cons_zero, List.getElem?_cons_succ, List.set_cons_zero, List.set_cons_succ, List.replicate_succ, List.replicate_zero, Nat.reduceSub, Nat.reduceAdd, if_true, if_false, decide_eq_true_eq, Bool.not_eq_true', Bool.true_eq_false, Bool.false_eq_true, reduceIte, decide_true, decide_false, Bool.not_true, Bool.not_false, ite_true, ite_false, List.length_map, beq_self_eq_true, Bool.and_self, Bool.true_and, Bool.and_true, Bool.and_false, Bool.false_and, *])
namespace Bag
noncomputable section
def lb_gcd_0 : MS := (spar 3 4 (aCons (mvar 4) (aCons (kOp fmdI (kCall intD (aCons (mvar 3) aNil)) (mvar 4)) aNil)))
def lb_gcd_1 : MS := (sseq (spar 3 4 (aCons (mvar 1) (aCons (kCall absD (aCons (mvar 2) aNil)) aNil))) (sseq (swhile (kB (kOp neA (mvar 4) (kC (.int 0)))) lb_gcd_0) (sasg (mvar 3) (gnm 1))))
def b_gcd_0 : MS := (sasg (kC (.int 0)) (gnm 1))
def b_gcd_1 : MS := (sfor (iL (mvar 0)) (gnm 2) lb_gcd_1)
def b_gcd_2 : MS := (zRet (mvar 1))
def b_gcd : MS := (sseq b_gcd_0 (sseq b_gcd_1 b_gcd_2))
def m_gcd : List D → M D := mdef 5 b_gcd
def b_rat_0 : MS := (sasg (kCall m_gcd (aCons (kCall lstD (aCons (mvar 0) (aCons (mvar 1) aNil))) aNil)) (gnm 2))
def b_rat_1 : MS := (zIf (kB (kOp ltI (mvar 1) (kC (.int 0)))) (sasg (kUn negI (mvar 2)) (gnm 2)) zNx)
def b_rat_2 : MS := (zRet (kCall tupD (aCons (kOp fdvI (mvar 0) (mvar 2)) (aCons (kOp fdvI (mvar 1) (mvar 2)) aNil))))
def b_rat : MS := (sseq b_rat_0 (sseq b_rat_1 b_rat_2))
def m_rat : List D → M D := mdef 3 b_rat
theorem turn_eq (x0 x1 x2 : Option D) (a b : Nat) (hb : b ≠ 0) (s : Pen) : lb_gcd_0 [x0, x1, x2, some (.int (a : Nat)), some (.int (b : Nat))] s = .nx [x0, x1, x2, some (.int (b : Nat)), some (.int ((a % b : Nat) : Int))] s := by
  unfold lb_gcd_0
  have h1 : ((b : Nat) : Int) ≠ 0 := by omega
  have h2 : ((a : Nat) : Int).fmod (b : Nat) = ((a % b : Nat) : Int) := by
    rw [Int.fmod_eq_emod_of_nonneg _ (by omega)]
    rfl
  walk_at "tw"
theorem euc (x0 x1 x2 : Option D) (s : Pen) : ∀ (b a : Nat), ∃ n, swN (kB (kOp neA (mvar 4) (kC (.int 0)))) lb_gcd_0 n [x0, x1, x2, some (.int (a : Nat)), some (.int (b : Nat))] s = .nx [x0, x1, x2, some (.int ((Nat.gcd a b : Nat) : Int)), some (.int ((0 : Nat) : Int))] s := by
  intro b
  induction b using Nat.strongRecOn with
  | _ b ih =>
    intro a
    by_cases hb : b = 0
    · subst hb
      refine ⟨1, ?_⟩
      rw [Nat.gcd_zero_right]
      rfl
    · obtain ⟨n, hn⟩ := ih (a % b) (Nat.mod_lt _ (by omega)) b
      refine ⟨n + 1, ?_⟩
      have hg : Nat.gcd b (a % b) = Nat.gcd a b := by rw [Nat.gcd_comm b, ← Nat.gcd_rec, Nat.gcd_comm]
      rw [hg] at hn
      have h1 : ((b : Nat) : Int) ≠ 0 := by omega
      have e : kB (kOp neA (mvar 4) (kC (.int 0))) [x0, x1, x2, some (.int (a : Nat)), some (.int (b : Nat))] s = .ok true s := by
        show Out.ok (!decide (((b : Nat) : Int) = 0)) s = _
        rw [decide_eq_false h1]; rfl
      unfold swN
      rw [e]
      show (match lb_gcd_0 [x0, x1, x2, some (.int (a : Nat)), some (.int (b : Nat))] s with | .nx ρ2 s2 => swN _ _ n ρ2 s2 | .ct ρ2 s2 => swN _ _ n ρ2 s2 | .bk ρ2 s2 => .nx ρ2 s2 | .ret d s2 => .ret d s2 | .exc c ns xs ρ2 s2 => .exc c ns xs ρ2 s2 | .bad => .bad) = _
      rw [turn_eq x0 x1 x2 a b hb s]
      exact hn
theorem wh (x0 x1 x2 : Option D) (s : Pen) (a b : Nat) : swhile (kB (kOp neA (mvar 4) (kC (.int 0)))) lb_gcd_0 [x0, x1, x2, some (.int (a : Nat)), some (.int (b : Nat))] s = .nx [x0, x1, x2, some (.int ((Nat.gcd a b : Nat) : Int)), some (.int ((0 : Nat) : Int))] s := by
  obtain ⟨n, hn⟩ := euc x0 x1 x2 s b a
  exact swhile_eq hn (fun z => nomatch z)
theorem abs_eq (a : Int) : (if a < 0 then -a else a) = ((a.natAbs : Nat) : Int) := by split <;> omega
theorem gturn (x0 x3 x4 : Option D) (g : Nat) (n : Int) (s : Pen) : lb_gcd_1 [x0, some (.int (g : Nat)), some (.int n), x3, x4] s = .nx [x0, some (.int ((Nat.gcd g n.natAbs : Nat) : Int)), some (.int n), some (.int ((Nat.gcd g n.natAbs : Nat) : Int)), some (.int ((0 : Nat) : Int))] s := by
  unfold lb_gcd_1
  have e := wh x0 (some (.int (g : Nat))) (some (.int n)) s g n.natAbs
  have ea := abs_eq n
  have e1 : absD [.int n] = mret (.int ((n.natAbs : Nat) : Int)) := by show mret (D.int (if n < 0 then -n else n)) = _; rw [ea]
  show sseq (spar 3 4 _) _ _ s = _
  have e0 : spar 3 4 (aCons (mvar 1) (aCons (kCall absD (aCons (mvar 2) aNil)) aNil)) [x0, some (.int (g : Nat)), some (.int n), x3, x4] s = .nx [x0, some (.int (g : Nat)), some (.int n), some (.int (g : Nat)), some (.int ((n.natAbs : Nat) : Int))] s := by
    clear e
    simp only [spar, aCons, aNil, kCall, mvar, e1, mbind_ret, sof_ret, List.getElem?_cons_succ, List.getElem?_cons_zero, List.set_cons_succ, List.set_cons_zero]
  rw [sseq_nx e0, sseq_nx e]
  rfl
theorem gloop (x0 : Option D) (s : Pen) : ∀ (ns : List Int) (x2 x3 x4 : Option D) (g : Nat), ∃ y2 y3 y4, sloop (gnm 2) lb_gcd_1 (ns.map D.int) [x0, some (.int (g : Nat)), x2, x3, x4] s = .nx [x0, some (.int ((ns.foldl (fun g n => Nat.gcd g n.natAbs) g : Nat) : Int)), y2, y3, y4] s
  | [], x2, x3, x4, g => ⟨_, _, _, rfl⟩
  | n :: ns, x2, x3, x4, g => by
    obtain ⟨y2, y3, y4, h⟩ := gloop x0 s ns (some (.int n)) (some (.int ((Nat.gcd g n.natAbs : Nat) : Int))) (some (.int ((0 : Nat) : Int))) (Nat.gcd g n.natAbs)
    refine ⟨y2, y3, y4, ?_⟩
    rw [List.map_cons]
    unfold sloop
    show (match lb_gcd_1 [x0, some (.int (g : Nat)), some (.int n), x3, x4] s with | .nx ρ2 s2 => sloop (gnm 2) lb_gcd_1 (ns.map D.int) ρ2 s2 | .ct ρ2 s2 => sloop (gnm 2) lb_gcd_1 (ns.map D.int) ρ2 s2 | .bk ρ2 s2 => .nx ρ2 s2 | .ret d s2 => .ret d s2 | .exc c ns xs ρ2 s2 => .exc c ns xs ρ2 s2 | .bad => .bad) = _
    rw [gturn]
    exact h
theorem gcd_eq (ns : List Int) : m_gcd [.lst (ns.map D.int)] = mret (.int ((ns.foldl (fun g n => Nat.gcd g n.natAbs) 0 : Nat) : Int)) := by
  funext s
  refine mdef_ret ?_
  obtain ⟨y2, y3, y4, h⟩ := gloop (some (.lst (ns.map D.int))) s ns none none none 0
  have e1 : b_gcd_1 [some (.lst (ns.map D.int)), some (.int ((0 : Nat) : Int)), none, none, none] s = _ := h
  show sseq b_gcd_0 (sseq b_gcd_1 b_gcd_2) [some (.lst (ns.map D.int)), none, none, none, none] s = _
  rw [sseq_nx (show b_gcd_0 [some (.lst (ns.map D.int)), none, none, none, none] s = .nx [some (.lst (ns.map D.int)), some (.int ((0 : Nat) : Int)), none, none, none] s from rfl), sseq_nx e1]
  rfl
theorem gcd2_eq (a b : Int) : m_gcd [.lst [.int a, .int b]] = mret (.int ((Nat.gcd a.natAbs b.natAbs : Nat) : Int)) := by
  have h := gcd_eq [a, b]
  simp only [List.map_cons, List.map_nil, List.foldl_cons, List.foldl_nil, Nat.gcd_zero_left] at h
  exact h
theorem rat_eq (a b : Int) (hb : b ≠ 0) (h9 : b.natAbs.log2 < 9000) : m_rat [.int a, .int b] = mret (rd (Rat.divInt a b)) := by
  funext s
  have hg : 0 < Nat.gcd a.natAbs b.natAbs := Nat.gcd_pos_of_pos_right _ (by omega)
  have hl : (Nat.gcd a.natAbs b.natAbs).log2 < 9000 := Nat.lt_of_le_of_lt (log2_le (Nat.le_of_dvd (by omega) (Nat.gcd_dvd_right ..))) h9
  have hi : ((Nat.gcd a.natAbs b.natAbs : Nat) : Int) ≠ 0 := by omega
  have hn : (((Nat.gcd a.natAbs b.natAbs : Nat) : Int)).natAbs.log2 < 9000 := by simpa using hl
  have k := lowered a b hb _ rfl
  have e := gcd2_eq a b
  refine mdef_ret ?_
  by_cases hneg : b < 0
  · have hn' : (-((Nat.gcd a.natAbs b.natAbs : Nat) : Int)).natAbs.log2 < 9000 := by rw [Int.natAbs_neg]; exact hn
    have hi' : -((Nat.gcd a.natAbs b.natAbs : Nat) : Int) ≠ 0 := by omega
    have f1 := fdv_eq (i := a) hi' hn'
    have f2 := fdv_eq (i := b) hi' hn'
    rw [if_pos hneg] at k
    rw [← k]
    clear hg hl hi hn hi' hn' k
    unfold b_rat b_rat_0 b_rat_1 b_rat_2
    walk_at "tw"
  · have f1 := fdv_eq (i := a) hi hn
    have f2 := fdv_eq (i := b) hi hn
    rw [if_neg hneg] at k
    rw [← k]
    clear hg hl hi hn k
    unfold b_rat b_rat_0 b_rat_1 b_rat_2
    walk_at "tw"
def b_prat_0 (cr : Nat) : MS := (zIf (kB (kOp eqA (mvar 1) (kC (.int 0)))) (zRaise cr) zNx)
def b_prat_1 : MS := (sasg (kCall gcdD (aCons (mvar 0) (aCons (mvar 1) aNil))) (gnm 2))
def b_prat (cr : Nat) : MS := (sseq (b_prat_0 cr) (sseq b_prat_1 (sseq b_rat_1 b_rat_2)))
def m_prat (cr : Nat) : List D → M D := mdef 3 (b_prat cr)
/-- the program's ratio -/
theorem prat_eq (cr : Nat) (a b : Int) (hb : b ≠ 0) (h9 : b.natAbs.log2 < 9000) : m_prat cr [.int a, .int b] = mret (rd (Rat.divInt a b)) := by
  funext s
  have hg : 0 < Nat.gcd a.natAbs b.natAbs := Nat.gcd_pos_of_pos_right _ (by omega)
  have hl : (Nat.gcd a.natAbs b.natAbs).log2 < 9000 := Nat.lt_of_le_of_lt (log2_le (Nat.le_of_dvd (by omega) (Nat.gcd_dvd_right ..))) h9
  have hi : ((Nat.gcd a.natAbs b.natAbs : Nat) : Int) ≠ 0 := by omega
  have hn : (((Nat.gcd a.natAbs b.natAbs : Nat) : Int)).natAbs.log2 < 9000 := by simpa using hl
  have k := lowered a b hb _ rfl
  refine mdef_ret ?_
  by_cases hneg : b < 0
  · have hn' : (-((Nat.gcd a.natAbs b.natAbs : Nat) : Int)).natAbs.log2 < 9000 := by rw [Int.natAbs_neg]; exact hn
    have hi' : -((Nat.gcd a.natAbs b.natAbs : Nat) : Int) ≠ 0 := by omega
    have f1 := fdv_eq (i := a) hi' hn'
    have f2 := fdv_eq (i := b) hi' hn'
    rw [if_pos hneg] at k
    rw [← k]
    clear hg hl hi hn hi' hn' k
    unfold b_prat b_prat_0 b_prat_1 b_rat_1 b_rat_2
    walk_at "tw"
  · have f1 := fdv_eq (i := a) hi hn
    have f2 := fdv_eq (i := b) hi hn
    rw [if_neg hneg] at k
    rw [← k]
    clear hg hl hi hn k
    unfold b_prat b_prat_0 b_prat_1 b_rat_1 b_rat_2
    walk_at "tw"
theorem rd_one (a : Int) : rd (Rat.divInt a 1) = .tup [.int a, .int 1] := by
  unfold rd
  rw [Rat.num_divInt, Rat.den_divInt]
  simp
end
end Bag
end Tw

set_option Elab.async false
set_option linter.all false
set_option maxRecDepth 100000
set_option maxHeartbeats 4000000
set_option autoImplicit false
/-! ### a quick walk: what comes first is walked first -/
namespace Tw
open PySem L2
theorem nr {α : Type} {a b : α} (h : a = b) : a = b := h
section
variable {α β : Type}
theorem c_obind {o o' : Out α} (f : α → M β) (h : o = o') : obind o f = obind o' f := by rw [h]
theorem c_sof {o o' : Out α} (ρ : Loc) (k : α → Pen → OutS) (h : o = o') : sof o ρ k = sof o' ρ k := by rw [h]
def seqk (o : OutS) (m : MS) : OutS := match o with
  | .nx ρ' s' => m ρ' s'
  | .ret d s' => .ret d s'
  | .bk ρ' s' => .bk ρ' s'
  | .ct ρ' s' => .ct ρ' s'
  | .exc c ns xs ρ' s' => .exc c ns xs ρ' s'
  | .bad => .bad
theorem c_seqk {o o' : OutS} (m : MS) (h : o = o') : seqk o m = seqk o' m := by rw [h]
theorem seqk_nx (ρ : Loc) (s : Pen) (m : MS) : seqk (.nx ρ s) m = m ρ s := nr rfl
theorem seqk_ret (d : D) (s : Pen) (m : MS) : seqk (.ret d s) m = .ret d s := nr rfl
theorem seqk_bk (ρ : Loc) (s : Pen) (m : MS) : seqk (.bk ρ s) m = .bk ρ s := nr rfl
theorem seqk_ct (ρ : Loc) (s : Pen) (m : MS) : seqk (.ct ρ s) m = .ct ρ s := nr rfl
theorem seqk_exc (c : Nat) (ns : List Str) (xs : List D) (ρ : Loc) (s : Pen) (m : MS) : seqk (.exc c ns xs ρ s) m = .exc c ns xs ρ s := nr rfl
theorem obind_exc (c : Nat) (ns : List Str) (xs : List D) (s : Pen) (f : α → M β) : obind (.exc c ns xs s) f = .exc c ns xs s := nr rfl
theorem sof_exc (c : Nat) (ns : List Str) (xs : List D) (s : Pen) (ρ : Loc) (k : α → Pen → OutS) : sof (.exc c ns xs s) ρ k = .exc c ns xs ρ s := nr rfl
def noxk (o : Out α) : Out α := match o with
  | .ok a s' => .ok a s'
  | _ => .bad
theorem noxk_ok (a : α) (s : Pen) : noxk (.ok a s) = .ok a s := nr rfl
variable {f f' : D → D → M D} {g : D → M D} {m : List D → M D} {fa fb fc fe fo fv : Loc → M D} {fA fi : Loc → M (List D)} {f1 f2 : Loc → M Bool} {ρ : Loc} {s : Pen} {m1 m2 : MS} {gm : D → Loc → Option Loc}
theorem y_nox (m : M α) : nox m s = noxk (m s) := by unfold nox noxk; cases m s <;> rfl
theorem y_seq : sseq m1 m2 ρ s = seqk (m1 ρ s) m2 := nr rfl
theorem y_mvZ {d : D} {r : Loc} : mvar 0 (some d :: r) s = .ok d s := nr rfl
theorem y_mvS {n : Nat} {x : Option D} {r : Loc} : mvar (n + 1) (x :: r) s = mvar n r s := nr rfl
theorem y_c (d : D) : kC d ρ s = .ok d s := nr rfl
theorem y_op : kOp f fa fb ρ s = obind (fa ρ s) fun x => mbind (fb ρ) fun y => f x y := nr rfl
theorem y_un : kUn g fa ρ s = obind (fa ρ s) g := nr rfl
theorem y_b : kB fa ρ s = obind (fa ρ s) asB := nr rfl
theorem y_asB (b : Bool) : asB (.bl b) s = .ok b s := nr rfl
theorem y_and : kAnd f1 f2 ρ s = obind (f1 ρ s) fun c => if c = true then f2 ρ else mret false := nr rfl
theorem y_or : kOr f1 f2 ρ s = obind (f1 ρ s) fun c => if c = true then mret true else f2 ρ := nr rfl
theorem y_not : kNot f1 ρ s = obind (f1 ρ s) fun c => mret (!c) := nr rfl
theorem y_andV : kAndV fa fb ρ s = obind (obind (fa ρ s) asB) fun c => if c = true then fb ρ else mret (.bl false) := nr rfl
theorem y_orV : kOrV fa fb ρ s = obind (obind (fa ρ s) asB) fun c => if c = true then mret (.bl true) else fb ρ := nr rfl
theorem y_notV : kNotV fa ρ s = obind (obind (fa ρ s) asB) fun c => mret (.bl (!c)) := nr rfl
theorem y_ifE : kIf f1 fa fb ρ s = obind (f1 ρ s) fun c => if c = true then fa ρ else fb ρ := nr rfl
theorem y_ch : kCh f f' fa fb fc ρ s = obind (fa ρ s) fun x => mbind (fb ρ) fun y => mbind (mbind (f x y) asB) fun k => if k = true then mbind (fc ρ) fun z => f' y z else mret (.bl false) := nr rfl
theorem y_nil : aNil ρ s = .ok [] s := nr rfl
theorem y_cons : aCons fe fA ρ s = obind (fe ρ s) fun x => mbind (fA ρ) fun xs => mret (x :: xs) := nr rfl
theorem y_call : kCall m fA ρ s = obind (fA ρ s) m := nr rfl
theorem y_callD (dd : List D) : kCallD m dd fA ρ s = obind (fA ρ s) fun ds => m (ds ++ dd) := nr rfl
theorem y_iL : iL fe ρ s = obind (fe ρ s) asL := nr rfl
theorem y_iT : iT fe ρ s = obind (fe ρ s) asT := nr rfl
theorem y_asL (xs : List D) : asL (.lst xs) s = .ok xs s := nr rfl
theorem y_asT (xs : List D) : asT (.tup xs) s = .ok xs s := nr rfl
theorem y_iS : iS fe ρ s = obind (fe ρ s) asS := nr rfl
theorem y_asSl (xs : List D) : asS (.lst xs) s = .ok xs s := nr rfl
theorem y_asSt (xs : List D) : asS (.tup xs) s = .ok xs s := nr rfl
theorem y_iR1 : iR1 fA ρ s = obind (fA ρ s) rng1 := nr rfl
theorem y_iR2 : iR2 fA ρ s = obind (fA ρ s) rng2 := nr rfl
theorem y_iZ : iZ fA ρ s = obind (fA ρ s) zipD := nr rfl
theorem y_iN : iN fA ρ s = obind (fA ρ s) enumD := nr rfl
theorem y_iOw (n : Nat) (x : Str) : iOw n x fe ρ s = obind (fe ρ s) (ownSeq n x) := nr rfl
theorem y_zll (xs ys : List D) : zipD [.lst xs, .lst ys] s = .ok (pairUp xs ys) s := nr rfl
theorem y_zlt (xs ys : List D) : zipD [.lst xs, .tup ys] s = .ok (pairUp xs ys) s := nr rfl
theorem y_ztl (xs ys : List D) : zipD [.tup xs, .lst ys] s = .ok (pairUp xs ys) s := nr rfl
theorem y_ztt (xs ys : List D) : zipD [.tup xs, .tup ys] s = .ok (pairUp xs ys) s := nr rfl
theorem y_enl (xs : List D) : enumD [.lst xs] s = .ok (numUp 0 xs) s := nr rfl
theorem y_ent (xs : List D) : enumD [.tup xs] s = .ok (numUp 0 xs) s := nr rfl
theorem y_rng {j : Int} (h : (decide (j < 100000) = true ∧ decide (-100000 < j) = true)) : rng1 [.int j] s = .ok (rngL 0 j.toNat) s := by
  show (if decide (j < 100000) = true ∧ decide (-100000 < j) = true then mret (rngL 0 j.toNat) else mbad) s = _
  rw [if_pos h]; rfl
theorem y_zNx : zNx ρ s = .nx ρ s := nr rfl
theorem y_zBk : zBk ρ s = .bk ρ s := nr rfl
theorem y_zCt : zCt ρ s = .ct ρ s := nr rfl
theorem y_ex : zEx fe ρ s = sof (fe ρ s) ρ fun _ s' => .nx ρ s' := nr rfl
theorem y_ret : zRet fe ρ s = sof (fe ρ s) ρ fun d s' => .ret d s' := nr rfl
theorem y_retN : zRetN ρ s = .ret .non s := nr rfl
theorem y_if : zIf f1 m1 m2 ρ s = sof (f1 ρ s) ρ fun k s' => if k = true then m1 ρ s' else m2 ρ s' := nr rfl
theorem y_raise (c : Nat) : zRaise c ρ s = .exc c [] [] ρ s := nr rfl
theorem y_raiseN (c : Nat) (ns : List Str) : zRaiseN c ns fA ρ s = sof (fA ρ s) ρ fun ds s' => if decide (ds.length = ns.length) = true then .exc c ns ds ρ s' else .bad := nr rfl
def gok (o : Option Loc) (s : Pen) : OutS := match o with
  | some ρ' => .nx ρ' s
  | none => .bad
theorem gok_some : gok (some ρ) s = .nx ρ s := nr rfl
theorem y_asg : sasg fe gm ρ s = sof (fe ρ s) ρ fun d s' => gok (gm d ρ) s' := by
  unfold sasg gok; exact nr rfl
theorem y_gnm (i : Nat) (d : D) : gnm i d ρ = some (ρ.set i (some d)) := nr rfl
def parK (i j : Nat) (ρ : Loc) (s : Pen) : List D → OutS
  | [x, y] => .nx ((ρ.set i (some x)).set j (some y)) s
  | _ => .bad
theorem parK_ok (i j : Nat) (x y : D) : parK i j ρ s [x, y] = .nx ((ρ.set i (some x)).set j (some y)) s := nr rfl
theorem y_par (i j : Nat) : spar i j fA ρ s = sof (fA ρ s) ρ fun ds s' => parK i j ρ s' ds := nr rfl
def gcK (o : Option Loc) (g2 : List D → Loc → Option Loc) (r : List D) : Option Loc := match o with
  | some ρ' => g2 r ρ'
  | none => none
theorem c_gcK {o o' : Option Loc} (g2 : List D → Loc → Option Loc) (r : List D) (h : o = o') : gcK o g2 r = gcK o' g2 r := by rw [h]
theorem gcK_some (g2 : List D → Loc → Option Loc) (r : List D) : gcK (some ρ) g2 r = g2 r ρ := nr rfl
theorem y_gcn (g1 : D → Loc → Option Loc) (g2 : List D → Loc → Option Loc) (d : D) (r : List D) : gcn g1 g2 (d :: r) ρ = gcK (g1 d ρ) g2 r := nr rfl
theorem y_gnl : gnl [] ρ = some ρ := nr rfl
theorem y_gtm2 (g : List D → Loc → Option Loc) (x y : D) : gtm 2 g (.tup [x, y]) ρ = g [x, y] ρ := nr rfl
theorem y_gtm3 (g : List D → Loc → Option Loc) (x y z : D) : gtm 3 g (.tup [x, y, z]) ρ = g [x, y, z] ρ := nr rfl
theorem y_addI (i j : Int) : addI (.int i) (.int j) s = .ok (.int (i + j)) s := nr rfl
theorem y_add (i j : Int) : addIL (.int i) (.int j) s = .ok (.int (i + j)) s := nr rfl
theorem y_sub (i j : Int) : subI (.int i) (.int j) s = .ok (.int (i - j)) s := nr rfl
theorem y_neg (i : Int) : negI (.int i) s = .ok (.int (-i)) s := nr rfl
theorem y_lt (i j : Int) : ltI (.int i) (.int j) s = .ok (.bl (decide (i < j))) s := nr rfl
theorem y_le (i j : Int) : leI (.int i) (.int j) s = .ok (.bl (decide (i ≤ j))) s := nr rfl
theorem y_gt (i j : Int) : gtI (.int i) (.int j) s = .ok (.bl (decide (j < i))) s := nr rfl
theorem y_ge (i j : Int) : geI (.int i) (.int j) s = .ok (.bl (decide (j ≤ i))) s := nr rfl
theorem y_eqi (i j : Int) : eqA (.int i) (.int j) s = .ok (.bl (decide (i = j))) s := nr rfl
theorem y_eqb (i j : Bool) : eqA (.bl i) (.bl j) s = .ok (.bl (decide (i = j))) s := nr rfl
theorem y_eqs (i j : Str) : eqA (.str i) (.str j) s = .ok (.bl (decide (i = j))) s := nr rfl
theorem y_nei (i j : Int) : neA (.int i) (.int j) s = .ok (.bl (!decide (i = j))) s := nr rfl
theorem y_neb (i j : Bool) : neA (.bl i) (.bl j) s = .ok (.bl (!decide (i = j))) s := nr rfl
theorem y_nes (i j : Str) : neA (.str i) (.str j) s = .ok (.bl (!decide (i = j))) s := nr rfl
theorem y_isb (i j : Bool) : isBo (.bl i) (.bl j) s = .ok (.bl (decide (i = j))) s := nr rfl
theorem y_nob (i j : Bool) : notBo (.bl i) (.bl j) s = .ok (.bl (!decide (i = j))) s := nr rfl
theorem y_lenl (xs : List D) : lenD [.lst xs] s = .ok (.int (xs.length : Nat)) s := nr rfl
theorem y_lent (xs : List D) : lenD [.tup xs] s = .ok (.int (xs.length : Nat)) s := nr rfl
theorem y_tuple_l (xs : List D) : tupleD [.lst xs] s = .ok (.tup xs) s := nr rfl
theorem y_tuple_t (xs : List D) : tupleD [.tup xs] s = .ok (.tup xs) s := nr rfl
theorem y_list_l (xs : List D) : listD [.lst xs] s = .ok (.lst xs) s := nr rfl
theorem y_list_t (xs : List D) : listD [.tup xs] s = .ok (.lst xs) s := nr rfl
theorem y_int (i : Int) : intD [.int i] s = .ok (.int i) s := nr rfl
theorem y_abs (i : Int) : absD [.int i] s = .ok (.int (if i < 0 then -i else i)) s := nr rfl
theorem y_gcd (i j : Int) : gcdD [.int i, .int j] s = .ok (.int ((Nat.gcd i.natAbs j.natAbs : Nat) : Int)) s := nr rfl
theorem y_max2 (i j : Int) : max2D [.int i, .int j] s = .ok (.int (if j > i then j else i)) s := nr rfl
theorem y_lst {xs : List D} (h : xs.length ≤ 100000) : lstD xs s = .ok (.lst xs) s := by
  show (if decide (xs.length ≤ 100000) = true then mret (D.lst xs) else mbad) s = _
  rw [if_pos (decide_eq_true h)]; rfl
theorem y_tup {xs : List D} (h : xs.length ≤ 100000) : tupD xs s = .ok (.tup xs) s := by
  show (if decide (xs.length ≤ 100000) = true then mret (D.tup xs) else mbad) s = _
  rw [if_pos (decide_eq_true h)]; rfl
theorem y_mul {i j : Int} (h : mulOk i j = true) : mulI (.int i) (.int j) s = .ok (.int (i * j)) s := by
  show (if mulOk i j = true then mret (D.int (i * j)) else mbad) s = _
  rw [if_pos h]; rfl
theorem y_fld (cf : Nat → Bool) (x : Str) : kFld cf x fa ρ s = obind (fa ρ s) (fldD cf x) := nr rfl
theorem y_meth (n : Nat) (x : Str) (dd : List D) : kMeth n x m dd fo fA ρ s = obind (fo ρ s) fun d => mbind (isI n x d) fun _ => mbind (fA ρ) fun ds => m (d :: (ds ++ dd)) := nr rfl
theorem y_prop (n : Nat) (x : Str) : kProp n x m fo ρ s = obind (fo ρ s) fun d => mbind (isI n x d) fun _ => nox (m [d]) := nr rfl
theorem y_isI (n : Nat) (x : Str) (ns : List Str) (xs : List D) (h : ns.contains x = false) : isI n x (.ins n ns xs) s = .ok () s := by rw [isI_ins n x ns xs h]; rfl
theorem y_mk (c : Nat) (dd : List D) : kMk c m dd fA ρ s = obind (fA ρ s) fun ds => mkD c m (ds ++ dd) := nr rfl
theorem y_bget (x : Bx) : bagGet fe x ρ s = obind (fe ρ s) fun d => fun s => match d with
  | .bag => .ok (.int (s.bget x)) s
  | _ => .bad := nr rfl
theorem y_sfor (mb : MS) : sfor fi gm mb ρ s = sof (fi ρ s) ρ fun ds s' => sloop gm mb ds ρ s' := nr rfl

def retk (o : OutS) : Out D := match o with
  | .nx _ s' => .ok .non s'
  | .ret d s' => .ok d s'
  | .exc c ns xs _ s' => .exc c ns xs s'
  | _ => .bad
theorem retk_nx : retk (.nx ρ s) = .ok .non s := nr rfl
theorem retk_ret (d : D) : retk (.ret d s) = .ok d s := nr rfl
theorem retk_exc (c : Nat) (ns : List Str) (xs : List D) : retk (.exc c ns xs ρ s) = .exc c ns xs s := nr rfl
theorem y_mdef (n : Nat) (b : MS) (ds : List D) : mdef n b ds s = retk (b (startL n ds) s) := nr rfl
theorem y_mbind (m : M α) (f : α → M β) (s : Pen) : mbind m f s = obind (m s) f := nr rfl
theorem y_obind (a : α) (s : Pen) (f : α → M β) : obind (.ok a s) f = f a s := nr rfl
theorem y_sof (a : α) (s : Pen) (ρ : Loc) (k : α → Pen → OutS) : sof (.ok a s) ρ k = k a s := nr rfl
theorem y_mret (a : α) (s : Pen) : mret a s = .ok a s := nr rfl
theorem y_set0 (a b : Option D) (l : Loc) : (b :: l).set 0 a = a :: l := nr rfl
theorem y_setS (a b : Option D) (l : Loc) (n : Nat) : (b :: l).set (n + 1) a = b :: l.set n a := nr rfl
def oAK (i : Nat) (mt : Nat → Option Bool) (nf : Nat → Bool) (hm : Nat → MS) (o : OutS) : OutS := match o with
  | .exc c ns xs ρ s => (match mt c with
    | some true => if (nf c && !ns.isEmpty) = true then .bad else backOf i (hm c (ρ.set i (some (.err c ns xs))) s)
    | some false => .exc c ns xs ρ s
    | none => .bad)
  | .nx ρ' s' => .nx ρ' s'
  | .ret d s' => .ret d s'
  | .bk ρ' s' => .bk ρ' s'
  | .ct ρ' s' => .ct ρ' s'
  | .bad => .bad
theorem y_oA {i : Nat} {mt : Nat → Option Bool} {nf : Nat → Bool} {mb : MS} {hm : Nat → MS} : oA i mt nf mb hm ρ s = oAK i mt nf hm (mb ρ s) := by
  unfold oA sTry oAK
  rfl
theorem oAK_exc {i : Nat} {mt : Nat → Option Bool} {nf : Nat → Bool} {hm : Nat → MS} {c : Nat} {ns : List Str} {xs : List D} (h1 : mt c = some true) (h2 : (nf c && !ns.isEmpty) = false) : oAK i mt nf hm (.exc c ns xs ρ s) = backOf i (hm c (ρ.set i (some (.err c ns xs))) s) := by
  show (match mt c with
    | some true => if (nf c && !ns.isEmpty) = true then OutS.bad else backOf i (hm c (ρ.set i (some (.err c ns xs))) s)
    | some false => .exc c ns xs ρ s
    | none => .bad) = _
  rw [h1]
  dsimp only
  rw [h2]
  rfl
theorem oAK_nx {i : Nat} {mt : Nat → Option Bool} {nf : Nat → Bool} {hm : Nat → MS} : oAK i mt nf hm (.nx ρ s) = .nx ρ s := nr rfl
theorem backOf_bl {i : Nat} {b : Bool} : backOf i (.ret (.bl b) s) = .ret (.bl b) s := nr rfl
theorem c_backOf {o o' : OutS} (i : Nat) (h : o = o') : backOf i o = backOf i o' := by rw [h]
theorem y_isiX {ans : String ⊕ Nat → String ⊕ Nat → Option Bool} {c : Nat} {ns : List Str} {xs : List D} {n : Nat} {b : Bool} (h : ans (.inr c) (.inr n) = some b) : isiX ans [.err c ns xs, .cls n] s = .ok (.bl b) s := by
  show (match ans (.inr c) (.inr n) with
    | some b => (mret (.bl b) : M D)
    | none => mbad) s = _
  rw [h]; rfl
theorem y_isiXt {ans : String ⊕ Nat → String ⊕ Nat → Option Bool} {c : Nat} {ns : List Str} {xs : List D} {n : String} {b : Bool} (h : ans (.inr c) (.inl n) = some b) : isiX ans [.err c ns xs, .ty n] s = .ok (.bl b) s := by
  show (match ans (.inr c) (.inl n) with
    | some b => (mret (.bl b) : M D)
    | none => mbad) s = _
  rw [h]; rfl
def xfK (f : Str) : D → M D := fun d => match d with
  | .err _ ns xs => (match fldOf ns xs f with
    | some x => mret x
    | none => mbad)
  | _ => mbad
theorem y_xf (f : Str) : kXf f fe ρ s = obind (fe ρ s) (xfK f) := nr rfl
theorem y_xfK {f : Str} {c : Nat} {ns : List Str} {xs : List D} {d : D} (h : fldOf ns xs f = some d) : xfK f (.err c ns xs) s = .ok d s := by
  show (match fldOf ns xs f with
    | some x => (mret x : M D)
    | none => mbad) s = _
  rw [h]; rfl
theorem y_xf1 {f : Str} {c : Nat} {d : D} : xfK f (.err c [f] [d]) s = .ok d s := y_xfK (by unfold fldOf; simp)
theorem grow_nx {n : Nat} {f : Tw.Loc → M (List D)} {mb : MS} {ρ ρ2 : Tw.Loc} {s s1 s2 : Pen} {ds : List D} (hf : f ρ s = .ok ds s1) (hc : (clearL ds && decide (n < ρ.length)) = true)
    (hm : mb ((ρ.map cleanS).set n (some .self)) { s1 with obj := ds.map (fun d => ("", d)), ocls := gro } = .nx ρ2 s2) (hs : ρ2[n]? = some (some .self)) :
    sGrow n f mb ρ s = .nx ((ρ2.map cleanS).set n (some (.lst (s2.obj.map (·.2))))) { s2 with obj := s1.obj, ocls := s1.ocls } := by
  unfold sGrow
  rw [hf]
  show (if (clearL ds && decide (n < ρ.length)) = true then _ else _) = _
  rw [if_pos hc, hm]
  dsimp only
  rw [hs]
end
/-! #### plain data is clear -/
mutual
theorem plain_clear : ∀ d : D, plainD d = true → clear d = true
  | .non, _ => rfl
  | .bl _, _ => rfl
  | .int _, _ => rfl
  | .str _, _ => rfl
  | .lst xs, h => plainL_clear xs h
  | .tup xs, h => plainL_clear xs h
  | .ty _, h => by cases h
  | .cls _, h => by cases h
  | .ins _ _ _, h => by cases h
  | .err _ _ _, h => by cases h
  | .pen, h => by cases h
  | .bag, h => by cases h
  | .self, h => by cases h
theorem plainL_clear : ∀ ds : List D, plainL ds = true → clearL ds = true
  | [], _ => rfl
  | d :: ds, h => by
    have h' : (plainD d && plainL ds) = true := h
    rw [Bool.and_eq_true] at h'
    show (clear d && clearL ds) = true
    rw [plain_clear d h'.1, plainL_clear ds h'.2]; rfl
end
theorem plainL_mem : ∀ {ds : List D}, plainL ds = true ↔ ∀ d ∈ ds, plainD d = true
  | [] => ⟨fun _ _ h => (List.not_mem_nil h).elim, fun _ => rfl⟩
  | d :: ds => by
    show (plainD d && plainL ds) = true ↔ _
    rw [Bool.and_eq_true, plainL_mem (ds := ds), List.forall_mem_cons]
end Tw

set_option Elab.async false
set_option linter.all false
set_option maxRecDepth 100000
set_option maxHeartbeats 4000000
set_option autoImplicit false
/-! ### rows of whole numbers: places, pairs, numbered -/
namespace Tw
open PySem L2
theorem is_len (ns : List Int) : (is ns).length = ns.length := List.length_map _
theorem is_get {ns : List Int} {i : Nat} {n : Int} (h : ns[i]? = some n) : (is ns)[i]? = some (.int n) := by
  show (ns.map D.int)[i]? = _
  rw [List.getElem?_map, h]; rfl
theorem at_is {ns : List Int} {i : Nat} {n : Int} (h : ns[i]? = some n) : atI (is ns) ((i : Nat) : Int) = some (.int n) := atI_nat (is_get h)
theorem at_is1 {ns : List Int} {n : Int} (h : ns[ns.length - 1]? = some n) : atI (is ns) (-1) = some (.int n) := by
  have hl : 0 < ns.length := by
    obtain ⟨q, _⟩ := List.getElem?_eq_some_iff.mp h
    omega
  unfold atI ixN
  rw [is_len, if_neg (by decide), if_pos (by omega)]
  show (is ns)[((-1 : Int) + (ns.length : Nat)).toNat]? = _
  rw [show ((-1 : Int) + (ns.length : Nat)).toNat = ns.length - 1 by omega]
  exact is_get h
theorem pair_is : ∀ (ns ms : List Int), pairUp (is ns) (is ms) = List.zipWith (fun a b => D.tup [.int a, .int b]) ns ms
  | [], _ => rfl
  | _ :: _, [] => rfl
  | n :: ns, m :: ms => by
    show D.tup [.int n, .int m] :: pairUp (is ns) (is ms) = _
    rw [pair_is ns ms]; rfl
theorem pair_same : ∀ (ns : List Int) (d : D), d ∈ pairUp (is ns) (is ns) → ∃ n, d = .tup [.int n, .int n]
  | [], d, h => (List.not_mem_nil h).elim
  | n :: ns, d, h => by
    rcases List.mem_cons.mp (show d ∈ D.tup [.int n, .int n] :: pairUp (is ns) (is ns) from h) with h | h
    · exact ⟨n, h⟩
    · exact pair_same ns d h
theorem pair_mem : ∀ (ns ms : List Int) (d : D), d ∈ pairUp (is ns) (is ms) → ∃ n m, n ∈ ns ∧ m ∈ ms ∧ d = .tup [.int n, .int m]
  | [], _, d, h => (List.not_mem_nil h).elim
  | _ :: _, [], d, h => (List.not_mem_nil h).elim
  | n :: ns, m :: ms, d, h => by
    rcases List.mem_cons.mp (show d ∈ D.tup [.int n, .int m] :: pairUp (is ns) (is ms) from h) with h | h
    · exact ⟨n, m, List.mem_cons_self, List.mem_cons_self, h⟩
    · obtain ⟨a, b, h1, h2, h3⟩ := pair_mem ns ms d h
      exact ⟨a, b, List.mem_cons_of_mem _ h1, List.mem_cons_of_mem _ h2, h3⟩
theorem pair_len (ns ms : List Int) (h : ms.length = ns.length) : (pairUp (is ns) (is ms)).length = ns.length := by
  unfold pairUp; rw [List.length_zipWith, is_len, is_len, h, Nat.min_self]
theorem num_mem : ∀ (ns : List Int) (k : Nat) (d : D), d ∈ numUp k (is ns) → ∃ (i : Nat) (n : Int), d = .tup [.int (i : Nat), .int n]
  | [], _, d, h => (List.not_mem_nil h).elim
  | n :: ns, k, d, h => by
    rcases List.mem_cons.mp (show d ∈ D.tup [.int (k : Nat), .int n] :: numUp (k + 1) (is ns) from h) with h | h
    · exact ⟨k, n, h⟩
    · exact num_mem ns (k + 1) d h
/-- of a pair -/
def fst2 : D → D
  | .tup [x, _] => x
  | d => d
def snd2 : D → Int
  | .tup [_, .int n] => n
  | _ => 0
def add2 : D → D
  | .tup [.int a, .int b] => .int (a + b)
  | d => d
def intOf : D → Int
  | .int i => i
  | _ => 0
theorem pair_add : ∀ (ns ms : List Int), (pairUp (is ns) (is ms)).map add2 = is (List.zipWith (· + ·) ns ms)
  | [], _ => rfl
  | _ :: _, [] => rfl
  | n :: ns, m :: ms => by
    show D.int (n + m) :: (pairUp (is ns) (is ms)).map add2 = _
    rw [pair_add ns ms]; rfl
/-- where a row is above nothing -/
def above (k : Nat) : List Int → List Int
  | [] => []
  | n :: ns => if 0 < n then (k : Int) :: above (k + 1) ns else above (k + 1) ns
theorem num_above : ∀ (ns : List Int) (k : Nat), ((numUp k (is ns)).filter fun d => decide (0 < snd2 d)).map fst2 = is (above k ns)
  | [], _ => rfl
  | n :: ns, k => by
    show ((D.tup [.int (k : Nat), .int n] :: numUp (k + 1) (is ns)).filter fun d => decide (0 < snd2 d)).map fst2 = _
    unfold above
    by_cases h : 0 < n
    · rw [List.filter_cons_of_pos (by show decide (0 < n) = true; exact decide_eq_true h), if_pos h, List.map_cons, num_above ns (k + 1)]; rfl
    · rw [List.filter_cons_of_neg (by show ¬ decide (0 < n) = true; rw [decide_eq_true_eq]; exact h), if_neg h, num_above ns (k + 1)]
theorem rng_above (t : D → Bool) : ∀ (ns : List Int) (k : Nat), (∀ i n, ns[i]? = some n → t (.int ((k + i : Nat) : Int)) = decide (0 < n)) → ((List.range' k ns.length).map fun i => D.int (i : Nat)).filter t = is (above k ns)
  | [], _, _ => rfl
  | n :: ns, k, h => by
    rw [List.length_cons, List.range'_succ, List.map_cons]
    have h0 := h 0 n rfl
    rw [Nat.add_zero] at h0
    have ih := rng_above t ns (k + 1) fun i m hm => by rw [← h (i + 1) m hm, show k + 1 + i = k + (i + 1) by omega]
    unfold above
    by_cases hn : 0 < n
    · rw [List.filter_cons_of_pos (by rw [h0]; exact decide_eq_true hn), if_pos hn, ih]; rfl
    · rw [List.filter_cons_of_neg (by rw [h0, decide_eq_true_eq]; exact hn), if_neg hn, ih]
theorem rngL_eq (n : Nat) : rngL 0 n = (List.range' 0 n).map fun i => D.int (i : Nat) := by
  unfold rngL
  rw [List.range_eq_range']
  refine List.map_congr_left fun i _ => ?_
  rw [Int.zero_add]
theorem filter_map_id {ds : List D} {t : D → Bool} : (ds.filter t).map (fun d => d) = ds.filter t := List.map_id' _
theorem rng_mem {n : Nat} {d : D} (h : d ∈ rngL 0 n) : ∃ i : Nat, i < n ∧ d = .int (i : Nat) := by
  unfold rngL at h
  obtain ⟨i, hi, rfl⟩ := List.mem_map.mp h
  exact ⟨i, List.mem_range.mp hi, by rw [Int.zero_add]⟩
theorem is_mem {ns : List Int} {d : D} (h : d ∈ is ns) : ∃ n ∈ ns, d = .int n := by
  obtain ⟨n, hn, rfl⟩ := List.mem_map.mp h
  exact ⟨n, hn, rfl⟩
theorem gset_nx {fo fi fv : Tw.Loc → M D} {ρ : Tw.Loc} {s s1 s3 : Pen} {d : D} {i : Int} {j : Nat} (hv : fv ρ s = .ok d s1) (ho : fo ρ s1 = .ok .self s1) (hi : fi ρ s1 = .ok (.int i) s3) (hx : ixN s3.obj.length i = some j) (hc : (s3.ocls == gro && clear d) = true) : gSet fo fi fv ρ s = .nx ρ { s3 with obj := objSet s3.obj j d } := by
  unfold gSet
  rw [hv, sof_ok, ho, sof_ok]
  dsimp only
  rw [hi, sof_ok]
  dsimp only
  rw [hx]
  dsimp only
  rw [if_pos hc]
theorem objSet_map (os : List (Str × D)) (j : Nat) (d : D) : (objSet os j d).map (·.2) = (os.map (·.2)).set j d := by unfold objSet; rw [List.map_set]
theorem bor_ok {α : Type} {ok : α → Bool} {n : Nat} {m : Tw.Loc → M α} {ρ ρ1 : Tw.Loc} {s s' : Pen} {d : α} (hg : (s.ocls == gro && isSelf ρ[n]?) = true) (hl : lentρ n s ρ = ρ1) (e : m ρ1 { s with obj := [], ocls := 0 } = .ok d s') (hd : ok d = true) : kBor ok n m ρ s = .ok d { s' with obj := s.obj, ocls := s.ocls } := by
  unfold kBor
  rw [if_pos hg, hl, e]
  unfold backE
  dsimp only
  rw [if_pos hd]
def slK (l h : Option Int) : D → M D := fun x => match x with
  | .lst xs => mret (.lst (cutD xs l h))
  | .tup xs => mret (.tup (cutD xs l h))
  | _ => mbad
def partK : D → M (Option Int) := fun d => match d with
  | .int i => mret (some i)
  | _ => mbad
section
variable {fe : Tw.Loc → M D} {fl fh : Tw.Loc → M (Option Int)} {ρ : Tw.Loc} {s : Pen}
theorem y_sl : kSl fe fl fh ρ s = obind (fe ρ s) fun x => mbind (fl ρ) fun l => mbind (fh ρ) fun h => slK l h x := nr rfl
theorem y_part : kPart fe ρ s = obind (fe ρ s) partK := nr rfl
theorem y_no : kNo ρ s = .ok none s := nr rfl
theorem y_pi (i : Int) : partK (.int i) s = .ok (some i) s := nr rfl
theorem y_sll (l h : Option Int) (xs : List D) : slK l h (.lst xs) s = .ok (.lst (cutD xs l h)) s := nr rfl
theorem y_slt (l h : Option Int) (xs : List D) : slK l h (.tup xs) s = .ok (.tup (cutD xs l h)) s := nr rfl
theorem y_cat {xs ys : List D} (h : xs.length + ys.length ≤ 100000) : addIL (.lst xs) (.lst ys) s = .ok (.lst (xs ++ ys)) s := by
  show (if decide (xs.length + ys.length ≤ 100000) = true then mret (D.lst (xs ++ ys)) else mbad) s = _
  rw [if_pos (decide_eq_true h)]; rfl
end
def parK3 (i j l : Nat) (ρ : Tw.Loc) (s : Pen) : List D → OutS
  | [x, y, z] => .nx (((ρ.set i (some x)).set j (some y)).set l (some z)) s
  | _ => .bad
theorem parK3_ok (i j l : Nat) (ρ : Tw.Loc) (s : Pen) (x y z : D) : parK3 i j l ρ s [x, y, z] = .nx (((ρ.set i (some x)).set j (some y)).set l (some z)) s := nr rfl
theorem y_par3 (i j l : Nat) (fA : Tw.Loc → M (List D)) (ρ : Tw.Loc) (s : Pen) : spar3 i j l fA ρ s = sof (fA ρ s) ρ fun ds s' => parK3 i j l ρ s' ds := nr rfl
def cmSK (c : Nat) (md : List D → M D) (dd : List D) (fA : Tw.Loc → M (List D)) (ρ : Tw.Loc) : D → M D := fun d => match d with
  | .cls k => if (k == c) = true then mbind (fA ρ) fun ds => md (.cls c :: (ds ++ dd)) else mbad
  | _ => mbad
theorem y_cmS (c : Nat) (md : List D → M D) (dd : List D) (fo : Tw.Loc → M D) (fA : Tw.Loc → M (List D)) (ρ : Tw.Loc) (s : Pen) : kCmS c md dd fo fA ρ s = obind (fo ρ s) (cmSK c md dd fA ρ) := nr rfl
theorem y_cmSK (c : Nat) (md : List D → M D) (dd : List D) (fA : Tw.Loc → M (List D)) (ρ : Tw.Loc) (s : Pen) : cmSK c md dd fA ρ (.cls c) s = obind (fA ρ s) fun ds => md (.cls c :: (ds ++ dd)) := by
  show (if (c == c) = true then mbind (fA ρ) (fun ds => md (.cls c :: (ds ++ dd))) else mbad) s = _
  rw [if_pos (beq_self_eq_true c)]; rfl
def mkVK (c : Nat) (m : List D → M D) (dd : List D) (fA : Tw.Loc → M (List D)) (ρ : Tw.Loc) : D → M D := fun d => match d with
  | .cls k => if (k == c) = true then mbind (fA ρ) fun ds => mkD c m (ds ++ dd) else mbad
  | _ => mbad
theorem y_mkV (c : Nat) (m : List D → M D) (dd : List D) (fn : Tw.Loc → M D) (fA : Tw.Loc → M (List D)) (ρ : Tw.Loc) (s : Pen) : kMkV c m dd fn fA ρ s = obind (fn ρ s) (mkVK c m dd fA ρ) := nr rfl
theorem y_mkVK (c : Nat) (m : List D → M D) (dd : List D) (fA : Tw.Loc → M (List D)) (ρ : Tw.Loc) (s : Pen) : mkVK c m dd fA ρ (.cls c) s = obind (fA ρ s) fun ds => mkD c m (ds ++ dd) := by
  show (if (c == c) = true then mbind (fA ρ) (fun ds => mkD c m (ds ++ dd)) else mbad) s = _
  rw [if_pos (beq_self_eq_true c)]; rfl
theorem y_isNon (s : Pen) : isNo .non .non s = .ok (.bl true) s := nr rfl
theorem rngL_from (k n : Nat) : rngL (k : Nat) n = (List.range' k n).map fun i => D.int (i : Nat) := by
  unfold rngL
  rw [List.range_eq_range', List.range'_eq_map_range (s := k), List.range_eq_range', List.map_map]
  refine List.map_congr_left fun i _ => ?_
  show D.int ((k : Nat) + (i : Nat)) = D.int ((k + i : Nat) : Int)
  rw [Int.natCast_add]
theorem rng_one {j : Int} {n : Nat} (h : j = (n : Nat)) (hn : n < 100000) : rng1 [.int j] = mret (rngL 0 n) := by
  subst h
  show (if decide (((n : Nat) : Int) < 100000) = true ∧ decide (-100000 < ((n : Nat) : Int)) = true then mret (rngL 0 ((n : Nat) : Int).toNat) else mbad) = _
  rw [if_pos ⟨decide_eq_true (by omega), decide_eq_true (by omega)⟩, Int.toNat_natCast]
theorem rng_two {i j : Int} {k n : Nat} (hi : i = (k : Nat)) (hj : j = ((k + n : Nat) : Int)) (hn : k + n < 100000) : rng2 [.int i, .int j] = mret (rngL (k : Nat) n) := by
  subst hi hj
  show (if decide (((k + n : Nat) : Int) < 100000) = true ∧ decide (-100000 < ((k + n : Nat) : Int)) = true ∧ decide (((k : Nat) : Int) < 100000) = true ∧ decide (-100000 < ((k : Nat) : Int)) = true then mret (rngL (k : Nat) (((k + n : Nat) : Int) - (k : Nat)).toNat) else mbad) = _
  rw [if_pos ⟨decide_eq_true (by omega), decide_eq_true (by omega), decide_eq_true (by omega), decide_eq_true (by omega)⟩, show (((k + n : Nat) : Int) - (k : Nat)).toNat = n by omega]
theorem backOf_nx (i : Nat) (ρ : Tw.Loc) (s : Pen) : backOf i (.nx ρ s) = .nx (clean (ρ.set i none)) s := nr rfl
theorem noErr_is : ∀ ns : List Int, noErrL (is ns) = true
  | [] => rfl
  | n :: ns => noErr_is ns
mutual
theorem nolst_ints : ∀ ns : List Int, nolstL (is ns) = true
  | [] => rfl
  | n :: ns => nolst_ints ns
end
theorem ixN_nat {n j : Nat} (h : j < n) : ixN n ((j : Nat) : Int) = some j := by
  unfold ixN
  rw [if_pos (by omega), if_pos (by omega), Int.toNat_natCast]
theorem y_itemG {y : D} {s : Pen} (h : (s.ocls == gro) = true) : itemG .self y s = itemD (.lst (s.obj.map (·.2))) y s := by
  show (if (s.ocls == gro) = true then itemD (.lst (s.obj.map (·.2))) y s else .bad) = _
  rw [if_pos h]
theorem sl_nx {gm : D → Tw.Loc → Option Tw.Loc} {mb : MS} {d : D} {ds : List D} {ρ ρ1 ρ2 : Tw.Loc} {s s2 : Pen} (h : gm d ρ = some ρ1) (e : mb ρ1 s = .nx ρ2 s2) : sloop gm mb (d :: ds) ρ s = sloop gm mb ds ρ2 s2 := by
  show (match gm d ρ with | none => OutS.bad | some ρ1 => _) = _
  rw [h]
  dsimp only
  rw [e]
end Tw

set_option Elab.async false
set_option linter.all false
set_option maxRecDepth 100000
set_option maxHeartbeats 4000000
set_option autoImplicit false
namespace K13
open PySem L2 PySem.Spec PyProof.Rows Tw
def topS (i : Nat) : Stmt := PySem.Challenge.pw_fourhinges_k13_stones_turn_about_hinges.main.body.getD i (.Pass ⟨0, 0, 0, 0⟩)
abbrev s__law_take : Stmt := topS 45
abbrev s__law_of : Stmt := topS 46
abbrev s__law_bag : Stmt := topS 44
abbrev s__law_joint : Stmt := topS 47
abbrev s__law_joints : Stmt := topS 48
abbrev s__law_numbers : Stmt := topS 51
abbrev s_is_row : Stmt := topS 15
abbrev s_is_number : Stmt := topS 13
abbrev s_is_count : Stmt := topS 14
abbrev s_Weights___init__ : Stmt := inClass (topS 38) 0
abbrev s_is_whole : Stmt := topS 19
abbrev s_is_point : Stmt := topS 26
abbrev s__checked_joint : Stmt := topS 29
abbrev s__checked_joints : Stmt := topS 30
abbrev s__check_stones : Stmt := topS 22
abbrev s_Load___init__ : Stmt := inClass (topS 23) 0
abbrev s_Force___init__ : Stmt := inClass (topS 17) 0
abbrev s_Force_none : Stmt := inClass (topS 17) 1
abbrev s_Load_none : Stmt := inClass (topS 23) 1
abbrev s_Load___len__ : Stmt := inClass (topS 23) 5
abbrev s__checked_own : Stmt := topS 31
abbrev s_Bridge___init__ : Stmt := inClass (topS 32) 0
abbrev s_Weights___len__ : Stmt := inClass (topS 38) 4
abbrev s_check_weights : Stmt := topS 39
abbrev s_Motion___init__ : Stmt := inClass (topS 34) 0
abbrev s_Motion_none : Stmt := inClass (topS 34) 1
abbrev s_Motion_turning : Stmt := inClass (topS 34) 2
abbrev s_side_of : Stmt := topS 28
abbrev s_Weights___getitem__ : Stmt := inClass (topS 38) 3
abbrev s_Bridge_point : Stmt := inClass (topS 32) 2
abbrev s_Motion___add__ : Stmt := inClass (topS 34) 7
abbrev s__motion_behind : Stmt := topS 40
abbrev s_stone_motions : Stmt := topS 42
abbrev s_motion_of : Stmt := topS 41
abbrev s__law_plain : Stmt := topS 52
abbrev s__law_corner : Stmt := topS 49
abbrev s__law_motion : Stmt := topS 50
abbrev s__law_at : Stmt := topS 53
abbrev s__law_joint_opens : Stmt := topS 54
abbrev s__law_all : Stmt := topS 55
abbrev s_Weights___mul__ : Stmt := inClass (topS 38) 7
abbrev s_Weights___add__ : Stmt := inClass (topS 38) 6
abbrev s_Weights___iter__ : Stmt := inClass (topS 38) 5
abbrev s__law_other_size : Stmt := topS 56
abbrev s_law : Stmt := topS 57
abbrev si_BadForce : Stmt := inClass (topS 3) 0
abbrev si_BadLoad : Stmt := inClass (topS 4) 0
abbrev si_OtherSize : Stmt := inClass (topS 5) 0
abbrev si_NoCorner : Stmt := inClass (topS 7) 0
abbrev si_BadBridge : Stmt := inClass (topS 8) 0
abbrev si_BadMotion : Stmt := inClass (topS 10) 0
abbrev si_BadWeights : Stmt := inClass (topS 11) 0
theorem sc__law_take : FnScope ["_law_bag_here", "_law_many", "_law_digit"] ["_law_bag_here", "_law_many"] (defScope s__law_take) := ⟨rfl, rfl, rfl, by decide +kernel, rfl, by decide +kernel, by decide +kernel⟩
theorem sc__law_of : FnScope ["_law_bag_here", "_law_some"] ["_law_bag_here", "_law_some"] (defScope s__law_of) := ⟨rfl, rfl, rfl, by decide +kernel, rfl, by decide +kernel, by decide +kernel⟩
theorem sc__law_bag : FnScope ["_law_script", "_law_at_here", "_law_cell", "_law_mix", "_law_k", "_law_each"] ["_law_script", "_law_at_here"] (defScope s__law_bag) := ⟨rfl, rfl, rfl, by decide +kernel, rfl, by decide +kernel, by decide +kernel⟩
theorem sc__law_joint : FnScope ["_law_bag_here", "_law_x", "_law_y", "_law_kind", "_law_slope", "_law_outer", "_law_inner", "_law_at_here", "_law_to", "_law_great"] ["_law_bag_here", "_law_x", "_law_y", "_law_kind", "_law_slope"] (defScope s__law_joint) := ⟨rfl, rfl, rfl, by decide +kernel, rfl, by decide +kernel, by decide +kernel⟩
theorem sc__law_joints : FnScope ["_law_bag_here", "_law_most", "_law_kind", "_law_slope", "_law_last", "_law_rise", "_law_k"] ["_law_bag_here", "_law_most"] (defScope s__law_joints) := ⟨rfl, rfl, rfl, by decide +kernel, rfl, by decide +kernel, by decide +kernel⟩
theorem sc__law_numbers : FnScope ["_law_bag_here", "_law_count", "_law_big", "_law_k"] ["_law_bag_here", "_law_count"] (defScope s__law_numbers) := ⟨rfl, rfl, rfl, by decide +kernel, rfl, by decide +kernel, by decide +kernel⟩
theorem sc_is_row : FnScope ["thing", "least", "most"] ["thing", "least", "most"] (defScope s_is_row) := ⟨rfl, rfl, rfl, by decide +kernel, rfl, by decide +kernel, by decide +kernel⟩
theorem sc_is_number : FnScope ["thing"] ["thing"] (defScope s_is_number) := ⟨rfl, rfl, rfl, by decide +kernel, rfl, by decide +kernel, by decide +kernel⟩
theorem sc_is_count : FnScope ["thing"] ["thing"] (defScope s_is_count) := ⟨rfl, rfl, rfl, by decide +kernel, rfl, by decide +kernel, by decide +kernel⟩
theorem sc_Weights___init__ : FnScope ["self", "numbers", "number"] ["self", "numbers"] (defScope s_Weights___init__) := ⟨rfl, rfl, rfl, by decide +kernel, rfl, by decide +kernel, by decide +kernel⟩
theorem sc_is_whole : FnScope ["thing", "low", "high"] ["thing", "low", "high"] (defScope s_is_whole) := ⟨rfl, rfl, rfl, by decide +kernel, rfl, by decide +kernel, by decide +kernel⟩
theorem sc_is_point : FnScope ["thing"] ["thing"] (defScope s_is_point) := ⟨rfl, rfl, rfl, by decide +kernel, rfl, by decide +kernel, by decide +kernel⟩
theorem sc__checked_joint : FnScope ["index", "joint", "inner", "outer"] ["index", "joint"] (defScope s__checked_joint) := ⟨rfl, rfl, rfl, by decide +kernel, rfl, by decide +kernel, by decide +kernel⟩
theorem sc__checked_joints : FnScope ["joints", "index", "joint"] ["joints"] (defScope s__checked_joints) := ⟨rfl, rfl, rfl, by decide +kernel, rfl, by decide +kernel, by decide +kernel⟩
theorem sc__check_stones : FnScope ["stones"] ["stones"] (defScope s__check_stones) := ⟨rfl, rfl, rfl, by decide +kernel, rfl, by decide +kernel, by decide +kernel⟩
theorem sc_Load___init__ : FnScope ["self", "forces", "force"] ["self", "forces"] (defScope s_Load___init__) := ⟨rfl, rfl, rfl, by decide +kernel, rfl, by decide +kernel, by decide +kernel⟩
theorem sc_Force___init__ : FnScope ["self", "across", "up", "moment"] ["self", "across", "up", "moment"] (defScope s_Force___init__) := ⟨rfl, rfl, rfl, by decide +kernel, rfl, by decide +kernel, by decide +kernel⟩
theorem sc_Force_none : FnScope ["cls"] ["cls"] (defScope s_Force_none) := ⟨rfl, rfl, rfl, by decide +kernel, rfl, by decide +kernel, by decide +kernel⟩
theorem sc_Load_none : FnScope ["cls", "stones", "_"] ["cls", "stones"] (defScope s_Load_none) := ⟨rfl, rfl, rfl, by decide +kernel, rfl, by decide +kernel, by decide +kernel⟩
theorem sc_Load___len__ : FnScope ["self"] ["self"] (defScope s_Load___len__) := ⟨rfl, rfl, rfl, by decide +kernel, rfl, by decide +kernel, by decide +kernel⟩
theorem sc__checked_own : FnScope ["own", "stones"] ["own", "stones"] (defScope s__checked_own) := ⟨rfl, rfl, rfl, by decide +kernel, rfl, by decide +kernel, by decide +kernel⟩
theorem sc_Bridge___init__ : FnScope ["self", "joints", "own"] ["self", "joints", "own"] (defScope s_Bridge___init__) := ⟨rfl, rfl, rfl, by decide +kernel, rfl, by decide +kernel, by decide +kernel⟩
theorem sc_Weights___len__ : FnScope ["self"] ["self"] (defScope s_Weights___len__) := ⟨rfl, rfl, rfl, by decide +kernel, rfl, by decide +kernel, by decide +kernel⟩
theorem sc_check_weights : FnScope ["bridge", "weights"] ["bridge", "weights"] (defScope s_check_weights) := ⟨rfl, rfl, rfl, by decide +kernel, rfl, by decide +kernel, by decide +kernel⟩
theorem sc_Motion___init__ : FnScope ["self", "turn", "across", "up"] ["self", "turn", "across", "up"] (defScope s_Motion___init__) := ⟨rfl, rfl, rfl, by decide +kernel, rfl, by decide +kernel, by decide +kernel⟩
theorem sc_Motion_none : FnScope ["cls"] ["cls"] (defScope s_Motion_none) := ⟨rfl, rfl, rfl, by decide +kernel, rfl, by decide +kernel, by decide +kernel⟩
theorem sc_Motion_turning : FnScope ["cls", "point", "turn", "x", "y"] ["cls", "point", "turn"] (defScope s_Motion_turning) := ⟨rfl, rfl, rfl, by decide +kernel, rfl, by decide +kernel, by decide +kernel⟩
theorem sc_side_of : FnScope ["corner"] ["corner"] (defScope s_side_of) := ⟨rfl, rfl, rfl, by decide +kernel, rfl, by decide +kernel, by decide +kernel⟩
theorem sc_Weights___getitem__ : FnScope ["self", "at"] ["self", "at"] (defScope s_Weights___getitem__) := ⟨rfl, rfl, rfl, by decide +kernel, rfl, by decide +kernel, by decide +kernel⟩
theorem sc_Bridge_point : FnScope ["self", "corner"] ["self", "corner"] (defScope s_Bridge_point) := ⟨rfl, rfl, rfl, by decide +kernel, rfl, by decide +kernel, by decide +kernel⟩
theorem sc_Motion___add__ : FnScope ["self", "other"] ["self", "other"] (defScope s_Motion___add__) := ⟨rfl, rfl, rfl, by decide +kernel, rfl, by decide +kernel, by decide +kernel⟩
theorem sc__motion_behind : FnScope ["bridge", "weights", "first", "motion", "corner"] ["bridge", "weights", "first"] (defScope s__motion_behind) := ⟨rfl, rfl, rfl, by decide +kernel, rfl, by decide +kernel, by decide +kernel⟩
theorem sc_stone_motions : FnScope ["bridge", "weights", "stone"] ["bridge", "weights"] (defScope s_stone_motions) := ⟨rfl, rfl, rfl, by decide +kernel, rfl, by decide +kernel, by decide +kernel⟩
theorem sc_motion_of : FnScope ["bridge", "weights"] ["bridge", "weights"] (defScope s_motion_of) := ⟨rfl, rfl, rfl, by decide +kernel, rfl, by decide +kernel, by decide +kernel⟩
theorem sc__law_plain : FnScope ["_law_motion_here", "_law_number"] ["_law_motion_here"] (defScope s__law_plain) := ⟨rfl, rfl, rfl, by decide +kernel, rfl, by decide +kernel, by decide +kernel⟩
theorem sc__law_corner : FnScope ["_law_joints_here", "_law_corner_here"] ["_law_joints_here", "_law_corner_here"] (defScope s__law_corner) := ⟨rfl, rfl, rfl, by decide +kernel, rfl, by decide +kernel, by decide +kernel⟩
theorem sc__law_motion : FnScope ["_law_joints_here", "_law_numbers_here", "_law_turn", "_law_across", "_law_up", "_law_corner_here", "_law_number", "_law_side", "_law_x", "_law_y"] ["_law_joints_here", "_law_numbers_here"] (defScope s__law_motion) := ⟨rfl, rfl, rfl, by decide +kernel, rfl, by decide +kernel, by decide +kernel⟩
theorem sc__law_at : FnScope ["_law_motion_here", "_law_point"] ["_law_motion_here", "_law_point"] (defScope s__law_at) := ⟨rfl, rfl, rfl, by decide +kernel, rfl, by decide +kernel, by decide +kernel⟩
theorem sc__law_joint_opens : FnScope ["_law_joints_here", "_law_joint_here", "_law_numbers_here", "_law_before", "_law_behind", "_law_near", "_law_wide", "_law_inner", "_law_outer", "_law_one", "_law_other", "_law_hinge", "_law_far", "_law_speed"] ["_law_joints_here", "_law_joint_here", "_law_numbers_here", "_law_before", "_law_behind"] (defScope s__law_joint_opens) := ⟨rfl, rfl, rfl, by decide +kernel, rfl, by decide +kernel, by decide +kernel⟩
theorem sc__law_all : FnScope ["_law_joints_here", "_law_numbers_here", "_law_told", "_law_ground", "_law_motions", "_law_stone", "_law_joint_here", "_law_rest", "_law_motion_here"] ["_law_joints_here", "_law_numbers_here", "_law_told", "_law_ground"] (defScope s__law_all) := ⟨rfl, rfl, rfl, by decide +kernel, rfl, by decide +kernel, by decide +kernel⟩
theorem sc_Weights___mul__ : FnScope ["self", "other", "number"] ["self", "other"] (defScope s_Weights___mul__) := ⟨rfl, rfl, rfl, by decide +kernel, rfl, by decide +kernel, by decide +kernel⟩
theorem sc_Weights___add__ : FnScope ["self", "other", "one", "two"] ["self", "other"] (defScope s_Weights___add__) := ⟨rfl, rfl, rfl, by decide +kernel, rfl, by decide +kernel, by decide +kernel⟩
theorem sc_Weights___iter__ : FnScope ["self"] ["self"] (defScope s_Weights___iter__) := ⟨rfl, rfl, rfl, by decide +kernel, rfl, by decide +kernel, by decide +kernel⟩
theorem sc__law_other_size : FnScope ["_law_bridge", "_law_weights", "_law_asks_stones", "_law_refused", "e", "_law_told"] ["_law_bridge", "_law_weights"] (defScope s__law_other_size) := ⟨rfl, rfl, rfl, by decide +kernel, rfl, by decide +kernel, by decide +kernel⟩
theorem sc_law : FnScope ["_law_script", "_law_bag_here", "_law_joints_here", "_law_count", "_law_first", "_law_both", "_law_a", "_law_b", "_law_times", "_law_place", "_law_bridge", "_law_one", "_law_other", "_law_longer", "_law_shorter", "_law_k", "_law_x", "_law_y"] ["_law_script"] (defScope s_law) := ⟨rfl, rfl, rfl, by decide +kernel, rfl, by decide +kernel, by decide +kernel⟩
theorem sci_BadForce : FnScope ["self", "what"] ["self", "what"] (defScope si_BadForce) := ⟨rfl, rfl, rfl, by decide +kernel, rfl, by decide +kernel, by decide +kernel⟩
theorem sci_BadLoad : FnScope ["self", "what"] ["self", "what"] (defScope si_BadLoad) := ⟨rfl, rfl, rfl, by decide +kernel, rfl, by decide +kernel, by decide +kernel⟩
theorem sci_OtherSize : FnScope ["self"] ["self"] (defScope si_OtherSize) := ⟨rfl, rfl, rfl, by decide +kernel, rfl, by decide +kernel, by decide +kernel⟩
theorem sci_NoCorner : FnScope ["self", "corner"] ["self", "corner"] (defScope si_NoCorner) := ⟨rfl, rfl, rfl, by decide +kernel, rfl, by decide +kernel, by decide +kernel⟩
theorem sci_BadBridge : FnScope ["self", "what", "joint"] ["self", "what", "joint"] (defScope si_BadBridge) := ⟨rfl, rfl, rfl, by decide +kernel, rfl, by decide +kernel, by decide +kernel⟩
theorem sci_BadMotion : FnScope ["self"] ["self"] (defScope si_BadMotion) := ⟨rfl, rfl, rfl, by decide +kernel, rfl, by decide +kernel, by decide +kernel⟩
theorem sci_BadWeights : FnScope ["self", "what"] ["self", "what"] (defScope si_BadWeights) := ⟨rfl, rfl, rfl, by decide +kernel, rfl, by decide +kernel, by decide +kernel⟩
structure Ad where
  f__law_take : Addr
  d__law_take : FuncData
  f__law_of : Addr
  d__law_of : FuncData
  f__law_bag : Addr
  d__law_bag : FuncData
  f__law_joint : Addr
  d__law_joint : FuncData
  f__law_joints : Addr
  d__law_joints : FuncData
  f__law_numbers : Addr
  d__law_numbers : FuncData
  f_is_row : Addr
  d_is_row : FuncData
  f_is_number : Addr
  d_is_number : FuncData
  f_is_count : Addr
  d_is_count : FuncData
  f_Weights___init__ : Addr
  d_Weights___init__ : FuncData
  f_is_whole : Addr
  d_is_whole : FuncData
  f_is_point : Addr
  d_is_point : FuncData
  f__checked_joint : Addr
  d__checked_joint : FuncData
  f__checked_joints : Addr
  d__checked_joints : FuncData
  f__check_stones : Addr
  d__check_stones : FuncData
  f_Load___init__ : Addr
  d_Load___init__ : FuncData
  f_Force___init__ : Addr
  d_Force___init__ : FuncData
  f_Force_none : Addr
  d_Force_none : FuncData
  p_Force_none : Addr
  v_Force_none : Value
  f_Load_none : Addr
  d_Load_none : FuncData
  p_Load_none : Addr
  v_Load_none : Value
  f_Load___len__ : Addr
  d_Load___len__ : FuncData
  f__checked_own : Addr
  d__checked_own : FuncData
  f_Bridge___init__ : Addr
  d_Bridge___init__ : FuncData
  f_Weights___len__ : Addr
  d_Weights___len__ : FuncData
  f_check_weights : Addr
  d_check_weights : FuncData
  f_Motion___init__ : Addr
  d_Motion___init__ : FuncData
  f_Motion_none : Addr
  d_Motion_none : FuncData
  p_Motion_none : Addr
  v_Motion_none : Value
  f_Motion_turning : Addr
  d_Motion_turning : FuncData
  p_Motion_turning : Addr
  v_Motion_turning : Value
  f_side_of : Addr
  d_side_of : FuncData
  f_Weights___getitem__ : Addr
  d_Weights___getitem__ : FuncData
  f_Bridge_point : Addr
  d_Bridge_point : FuncData
  f_Motion___add__ : Addr
  d_Motion___add__ : FuncData
  f__motion_behind : Addr
  d__motion_behind : FuncData
  f_stone_motions : Addr
  d_stone_motions : FuncData
  f_motion_of : Addr
  d_motion_of : FuncData
  f__law_plain : Addr
  d__law_plain : FuncData
  f__law_corner : Addr
  d__law_corner : FuncData
  f__law_motion : Addr
  d__law_motion : FuncData
  f__law_at : Addr
  d__law_at : FuncData
  f__law_joint_opens : Addr
  d__law_joint_opens : FuncData
  f__law_all : Addr
  d__law_all : FuncData
  f_Weights___mul__ : Addr
  d_Weights___mul__ : FuncData
  f_Weights___add__ : Addr
  d_Weights___add__ : FuncData
  f_Weights___iter__ : Addr
  d_Weights___iter__ : FuncData
  f__law_other_size : Addr
  d__law_other_size : FuncData
  f_law : Addr
  d_law : FuncData
  c_BridgeError : Addr
  c_BadForce : Addr
  i_BadForce : Addr
  di_BadForce : FuncData
  c_BadLoad : Addr
  i_BadLoad : Addr
  di_BadLoad : FuncData
  c_OtherSize : Addr
  i_OtherSize : Addr
  di_OtherSize : FuncData
  c_NoStone : Addr
  c_NoCorner : Addr
  i_NoCorner : Addr
  di_NoCorner : FuncData
  c_BadBridge : Addr
  i_BadBridge : Addr
  di_BadBridge : FuncData
  c_NoPart : Addr
  c_BadMotion : Addr
  i_BadMotion : Addr
  di_BadMotion : FuncData
  c_BadWeights : Addr
  i_BadWeights : Addr
  di_BadWeights : FuncData
  c_Force : Addr
  c_Load : Addr
  c_Bridge : Addr
  c_Motion : Addr
  c_Weights : Addr
  tk_MOST_CORNERS : Tok
  tk_LEAST_CORNERS : Tok
  tk_MOST_STONES : Tok
  tk_FARTHEST : Tok
def gt (a : Ad) : Gt := ⟨fun n => match n with
  | 0 => a.c_BridgeError
  | 1 => a.c_BadForce
  | 2 => a.c_BadLoad
  | 3 => a.c_OtherSize
  | 4 => a.c_NoStone
  | 5 => a.c_NoCorner
  | 6 => a.c_BadBridge
  | 7 => a.c_NoPart
  | 8 => a.c_BadMotion
  | 9 => a.c_BadWeights
  | 10 => a.c_Force
  | 11 => a.c_Load
  | 12 => a.c_Bridge
  | 13 => a.c_Motion
  | 14 => a.c_Weights
  | _ => 0, none⟩
def ans : String ⊕ Nat → String ⊕ Nat → Option Bool := fun t c => match t, c with
  | .inr 12, .inr 10 => some false
  | .inr 12, .inr 11 => some false
  | .inr 12, .inr 13 => some false
  | .inr 12, .inl "bool" => some false
  | .inr 12, .inl "int" => some false
  | .inr 12, .inl "list" => some false
  | .inr 12, .inl "tuple" => some false
  | .inr 10, .inr 10 => some true
  | .inr 10, .inr 11 => some false
  | .inr 10, .inr 13 => some false
  | .inr 10, .inl "bool" => some false
  | .inr 10, .inl "int" => some false
  | .inr 10, .inl "list" => some false
  | .inr 10, .inl "tuple" => some false
  | .inr 11, .inr 10 => some false
  | .inr 11, .inr 11 => some true
  | .inr 11, .inr 13 => some false
  | .inr 11, .inl "bool" => some false
  | .inr 11, .inl "int" => some false
  | .inr 11, .inl "list" => some false
  | .inr 11, .inl "tuple" => some false
  | .inr 13, .inr 10 => some false
  | .inr 13, .inr 11 => some false
  | .inr 13, .inr 13 => some true
  | .inr 13, .inl "bool" => some false
  | .inr 13, .inl "int" => some false
  | .inr 13, .inl "list" => some false
  | .inr 13, .inl "tuple" => some false
  | .inl "NoneType", .inr 10 => some false
  | .inl "NoneType", .inr 11 => some false
  | .inl "NoneType", .inr 13 => some false
  | .inr 14, .inr 10 => some false
  | .inr 14, .inr 11 => some false
  | .inr 14, .inr 13 => some false
  | .inr 14, .inl "bool" => some false
  | .inr 14, .inl "int" => some false
  | .inr 14, .inl "list" => some false
  | .inr 14, .inl "tuple" => some false
  | .inl "bool", .inr 10 => some false
  | .inl "bool", .inr 11 => some false
  | .inl "bool", .inr 13 => some false
  | .inl "int", .inr 10 => some false
  | .inl "int", .inr 11 => some false
  | .inl "int", .inr 13 => some false
  | .inl "list", .inr 10 => some false
  | .inl "list", .inr 11 => some false
  | .inl "list", .inr 13 => some false
  | .inl "str", .inr 10 => some false
  | .inl "str", .inr 11 => some false
  | .inl "str", .inr 13 => some false
  | .inl "tuple", .inr 10 => some false
  | .inl "tuple", .inr 11 => some false
  | .inl "tuple", .inr 13 => some false
  | _, _ => none
def ansE : String ⊕ Nat → String ⊕ Nat → Option Bool := fun t c => match t, c with
  | .inr 6, .inr 9 => some false
  | .inr 6, .inr 3 => some false
  | .inr 1, .inr 9 => some false
  | .inr 1, .inr 3 => some false
  | .inr 2, .inr 9 => some false
  | .inr 2, .inr 3 => some false
  | .inr 8, .inr 9 => some false
  | .inr 8, .inr 3 => some false
  | .inr 9, .inr 9 => some true
  | .inr 9, .inr 3 => some false
  | .inr 5, .inr 9 => some false
  | .inr 5, .inr 3 => some false
  | .inr 3, .inr 9 => some false
  | .inr 3, .inr 3 => some true
  | _, _ => none
def cf_numbers : Nat → Bool := fun n => match n with
  | 14 => true
  | _ => false
def cf_joints : Nat → Bool := fun n => match n with
  | 12 => true
  | _ => false
def cf_stones : Nat → Bool := fun n => match n with
  | 12 => true
  | _ => false
def cf_corner_count : Nat → Bool := fun n => match n with
  | 12 => true
  | _ => false
def cf_forces : Nat → Bool := fun n => match n with
  | 11 => true
  | _ => false
def cf_across : Nat → Bool := fun n => match n with
  | 10 => true
  | 13 => true
  | _ => false
def cf_up : Nat → Bool := fun n => match n with
  | 10 => true
  | 13 => true
  | _ => false
def cf_moment : Nat → Bool := fun n => match n with
  | 10 => true
  | _ => false
def cf_own : Nat → Bool := fun n => match n with
  | 12 => true
  | _ => false
def cf_turn : Nat → Bool := fun n => match n with
  | 13 => true
  | _ => false
def mt_BridgeError : Nat → Option Bool := fun n => match n with
  | 1 => some true
  | 2 => some true
  | 3 => some true
  | 5 => some true
  | 6 => some true
  | 8 => some true
  | 9 => some true
  | _ => none
structure Txt (K : PySem.W.Frag) (mg : Str → Option Value) (a : Ad) : Prop where
  t__law_take : FunD K "_law_take" "_law_take" (defArgs s__law_take) (defBody s__law_take) (defScope s__law_take) [] [] a.f__law_take a.d__law_take
  m__law_take : mg "_law_take" = some (.ref a.f__law_take)
  b__law_take : L2.Binds K a.d__law_take ["_law_bag_here", "_law_many"] []
  t__law_of : FunD K "_law_of" "_law_of" (defArgs s__law_of) (defBody s__law_of) (defScope s__law_of) [] [] a.f__law_of a.d__law_of
  m__law_of : mg "_law_of" = some (.ref a.f__law_of)
  b__law_of : L2.Binds K a.d__law_of ["_law_bag_here", "_law_some"] []
  t__law_bag : FunD K "_law_bag" "_law_bag" (defArgs s__law_bag) (defBody s__law_bag) (defScope s__law_bag) [] [] a.f__law_bag a.d__law_bag
  m__law_bag : mg "_law_bag" = some (.ref a.f__law_bag)
  b__law_bag : L2.Binds K a.d__law_bag ["_law_script", "_law_at_here"] []
  t__law_joint : FunD K "_law_joint" "_law_joint" (defArgs s__law_joint) (defBody s__law_joint) (defScope s__law_joint) [] [] a.f__law_joint a.d__law_joint
  m__law_joint : mg "_law_joint" = some (.ref a.f__law_joint)
  b__law_joint : L2.Binds K a.d__law_joint ["_law_bag_here", "_law_x", "_law_y", "_law_kind", "_law_slope"] []
  t__law_joints : FunD K "_law_joints" "_law_joints" (defArgs s__law_joints) (defBody s__law_joints) (defScope s__law_joints) [] [] a.f__law_joints a.d__law_joints
  m__law_joints : mg "_law_joints" = some (.ref a.f__law_joints)
  b__law_joints : L2.Binds K a.d__law_joints ["_law_bag_here", "_law_most"] []
  t__law_numbers : FunD K "_law_numbers" "_law_numbers" (defArgs s__law_numbers) (defBody s__law_numbers) (defScope s__law_numbers) [] [] a.f__law_numbers a.d__law_numbers
  m__law_numbers : mg "_law_numbers" = some (.ref a.f__law_numbers)
  b__law_numbers : L2.Binds K a.d__law_numbers ["_law_bag_here", "_law_count"] []
  t_is_row : FunD K "is_row" "is_row" (defArgs s_is_row) (defBody s_is_row) (defScope s_is_row) [] [] a.f_is_row a.d_is_row
  m_is_row : mg "is_row" = some (.ref a.f_is_row)
  b_is_row : L2.Binds K a.d_is_row ["thing", "least", "most"] []
  t_is_number : FunD K "is_number" "is_number" (defArgs s_is_number) (defBody s_is_number) (defScope s_is_number) [] [] a.f_is_number a.d_is_number
  m_is_number : mg "is_number" = some (.ref a.f_is_number)
  b_is_number : L2.Binds K a.d_is_number ["thing"] []
  t_is_count : FunD K "is_count" "is_count" (defArgs s_is_count) (defBody s_is_count) (defScope s_is_count) [] [] a.f_is_count a.d_is_count
  m_is_count : mg "is_count" = some (.ref a.f_is_count)
  b_is_count : L2.Binds K a.d_is_count ["thing"] []
  t_Weights___init__ : FunD K "__init__" "Weights.__init__" (defArgs s_Weights___init__) (defBody s_Weights___init__) (defScope s_Weights___init__) [] [] a.f_Weights___init__ a.d_Weights___init__
  b_Weights___init__ : L2.Binds K a.d_Weights___init__ ["self", "numbers"] []
  t_is_whole : FunD K "is_whole" "is_whole" (defArgs s_is_whole) (defBody s_is_whole) (defScope s_is_whole) [] [] a.f_is_whole a.d_is_whole
  m_is_whole : mg "is_whole" = some (.ref a.f_is_whole)
  b_is_whole : L2.Binds K a.d_is_whole ["thing", "low", "high"] []
  t_is_point : FunD K "is_point" "is_point" (defArgs s_is_point) (defBody s_is_point) (defScope s_is_point) [] [] a.f_is_point a.d_is_point
  m_is_point : mg "is_point" = some (.ref a.f_is_point)
  b_is_point : L2.Binds K a.d_is_point ["thing"] []
  t__checked_joint : FunD K "_checked_joint" "_checked_joint" (defArgs s__checked_joint) (defBody s__checked_joint) (defScope s__checked_joint) [] [] a.f__checked_joint a.d__checked_joint
  m__checked_joint : mg "_checked_joint" = some (.ref a.f__checked_joint)
  b__checked_joint : L2.Binds K a.d__checked_joint ["index", "joint"] []
  t__checked_joints : FunD K "_checked_joints" "_checked_joints" (defArgs s__checked_joints) (defBody s__checked_joints) (defScope s__checked_joints) [] [] a.f__checked_joints a.d__checked_joints
  m__checked_joints : mg "_checked_joints" = some (.ref a.f__checked_joints)
  b__checked_joints : L2.Binds K a.d__checked_joints ["joints"] []
  t__check_stones : FunD K "_check_stones" "_check_stones" (defArgs s__check_stones) (defBody s__check_stones) (defScope s__check_stones) [] [] a.f__check_stones a.d__check_stones
  m__check_stones : mg "_check_stones" = some (.ref a.f__check_stones)
  b__check_stones : L2.Binds K a.d__check_stones ["stones"] []
  t_Load___init__ : FunD K "__init__" "Load.__init__" (defArgs s_Load___init__) (defBody s_Load___init__) (defScope s_Load___init__) [] [] a.f_Load___init__ a.d_Load___init__
  b_Load___init__ : L2.Binds K a.d_Load___init__ ["self", "forces"] []
  t_Force___init__ : FunD K "__init__" "Force.__init__" (defArgs s_Force___init__) (defBody s_Force___init__) (defScope s_Force___init__) [] [] a.f_Force___init__ a.d_Force___init__
  b_Force___init__ : L2.Binds K a.d_Force___init__ ["self", "across", "up", "moment"] []
  t_Force_none : FunD K "none" "Force.none" (defArgs s_Force_none) (defBody s_Force_none) (defScope s_Force_none) [] [] a.f_Force_none a.d_Force_none
  b_Force_none : L2.Binds K a.d_Force_none ["cls"] []
  t_Load_none : FunD K "none" "Load.none" (defArgs s_Load_none) (defBody s_Load_none) (defScope s_Load_none) [] [] a.f_Load_none a.d_Load_none
  b_Load_none : L2.Binds K a.d_Load_none ["cls", "stones"] []
  t_Load___len__ : FunD K "__len__" "Load.__len__" (defArgs s_Load___len__) (defBody s_Load___len__) (defScope s_Load___len__) [] [] a.f_Load___len__ a.d_Load___len__
  b_Load___len__ : L2.Binds K a.d_Load___len__ ["self"] []
  t__checked_own : FunD K "_checked_own" "_checked_own" (defArgs s__checked_own) (defBody s__checked_own) (defScope s__checked_own) [] [] a.f__checked_own a.d__checked_own
  m__checked_own : mg "_checked_own" = some (.ref a.f__checked_own)
  b__checked_own : L2.Binds K a.d__checked_own ["own", "stones"] []
  t_Bridge___init__ : FunD K "__init__" "Bridge.__init__" (defArgs s_Bridge___init__) (defBody s_Bridge___init__) (defScope s_Bridge___init__) [.non] [] a.f_Bridge___init__ a.d_Bridge___init__
  b_Bridge___init__ : L2.Binds K a.d_Bridge___init__ ["self", "joints", "own"] []
  bd1_Bridge___init__ : ∃ dl, Vals [.non] dl ∧ L2.Binds K a.d_Bridge___init__ ["self", "joints", "own"] dl
  t_Weights___len__ : FunD K "__len__" "Weights.__len__" (defArgs s_Weights___len__) (defBody s_Weights___len__) (defScope s_Weights___len__) [] [] a.f_Weights___len__ a.d_Weights___len__
  b_Weights___len__ : L2.Binds K a.d_Weights___len__ ["self"] []
  t_check_weights : FunD K "check_weights" "check_weights" (defArgs s_check_weights) (defBody s_check_weights) (defScope s_check_weights) [] [] a.f_check_weights a.d_check_weights
  m_check_weights : mg "check_weights" = some (.ref a.f_check_weights)
  b_check_weights : L2.Binds K a.d_check_weights ["bridge", "weights"] []
  t_Motion___init__ : FunD K "__init__" "Motion.__init__" (defArgs s_Motion___init__) (defBody s_Motion___init__) (defScope s_Motion___init__) [] [] a.f_Motion___init__ a.d_Motion___init__
  b_Motion___init__ : L2.Binds K a.d_Motion___init__ ["self", "turn", "across", "up"] []
  t_Motion_none : FunD K "none" "Motion.none" (defArgs s_Motion_none) (defBody s_Motion_none) (defScope s_Motion_none) [] [] a.f_Motion_none a.d_Motion_none
  b_Motion_none : L2.Binds K a.d_Motion_none ["cls"] []
  t_Motion_turning : FunD K "turning" "Motion.turning" (defArgs s_Motion_turning) (defBody s_Motion_turning) (defScope s_Motion_turning) [.int 1] [] a.f_Motion_turning a.d_Motion_turning
  b_Motion_turning : L2.Binds K a.d_Motion_turning ["cls", "point", "turn"] []
  t_side_of : FunD K "side_of" "side_of" (defArgs s_side_of) (defBody s_side_of) (defScope s_side_of) [] [] a.f_side_of a.d_side_of
  m_side_of : mg "side_of" = some (.ref a.f_side_of)
  b_side_of : L2.Binds K a.d_side_of ["corner"] []
  t_Weights___getitem__ : FunD K "__getitem__" "Weights.__getitem__" (defArgs s_Weights___getitem__) (defBody s_Weights___getitem__) (defScope s_Weights___getitem__) [] [] a.f_Weights___getitem__ a.d_Weights___getitem__
  b_Weights___getitem__ : L2.Binds K a.d_Weights___getitem__ ["self", "at"] []
  t_Bridge_point : FunD K "point" "Bridge.point" (defArgs s_Bridge_point) (defBody s_Bridge_point) (defScope s_Bridge_point) [] [] a.f_Bridge_point a.d_Bridge_point
  b_Bridge_point : L2.Binds K a.d_Bridge_point ["self", "corner"] []
  t_Motion___add__ : FunD K "__add__" "Motion.__add__" (defArgs s_Motion___add__) (defBody s_Motion___add__) (defScope s_Motion___add__) [] [] a.f_Motion___add__ a.d_Motion___add__
  b_Motion___add__ : L2.Binds K a.d_Motion___add__ ["self", "other"] []
  t__motion_behind : FunD K "_motion_behind" "_motion_behind" (defArgs s__motion_behind) (defBody s__motion_behind) (defScope s__motion_behind) [] [] a.f__motion_behind a.d__motion_behind
  m__motion_behind : mg "_motion_behind" = some (.ref a.f__motion_behind)
  b__motion_behind : L2.Binds K a.d__motion_behind ["bridge", "weights", "first"] []
  t_stone_motions : FunD K "stone_motions" "stone_motions" (defArgs s_stone_motions) (defBody s_stone_motions) (defScope s_stone_motions) [] [] a.f_stone_motions a.d_stone_motions
  m_stone_motions : mg "stone_motions" = some (.ref a.f_stone_motions)
  b_stone_motions : L2.Binds K a.d_stone_motions ["bridge", "weights"] []
  t_motion_of : FunD K "motion_of" "motion_of" (defArgs s_motion_of) (defBody s_motion_of) (defScope s_motion_of) [] [] a.f_motion_of a.d_motion_of
  m_motion_of : mg "motion_of" = some (.ref a.f_motion_of)
  b_motion_of : L2.Binds K a.d_motion_of ["bridge", "weights"] []
  t__law_plain : FunD K "_law_plain" "_law_plain" (defArgs s__law_plain) (defBody s__law_plain) (defScope s__law_plain) [] [] a.f__law_plain a.d__law_plain
  m__law_plain : mg "_law_plain" = some (.ref a.f__law_plain)
  b__law_plain : L2.Binds K a.d__law_plain ["_law_motion_here"] []
  t__law_corner : FunD K "_law_corner" "_law_corner" (defArgs s__law_corner) (defBody s__law_corner) (defScope s__law_corner) [] [] a.f__law_corner a.d__law_corner
  m__law_corner : mg "_law_corner" = some (.ref a.f__law_corner)
  b__law_corner : L2.Binds K a.d__law_corner ["_law_joints_here", "_law_corner_here"] []
  t__law_motion : FunD K "_law_motion" "_law_motion" (defArgs s__law_motion) (defBody s__law_motion) (defScope s__law_motion) [] [] a.f__law_motion a.d__law_motion
  m__law_motion : mg "_law_motion" = some (.ref a.f__law_motion)
  b__law_motion : L2.Binds K a.d__law_motion ["_law_joints_here", "_law_numbers_here"] []
  t__law_at : FunD K "_law_at" "_law_at" (defArgs s__law_at) (defBody s__law_at) (defScope s__law_at) [] [] a.f__law_at a.d__law_at
  m__law_at : mg "_law_at" = some (.ref a.f__law_at)
  b__law_at : L2.Binds K a.d__law_at ["_law_motion_here", "_law_point"] []
  t__law_joint_opens : FunD K "_law_joint_opens" "_law_joint_opens" (defArgs s__law_joint_opens) (defBody s__law_joint_opens) (defScope s__law_joint_opens) [] [] a.f__law_joint_opens a.d__law_joint_opens
  m__law_joint_opens : mg "_law_joint_opens" = some (.ref a.f__law_joint_opens)
  b__law_joint_opens : L2.Binds K a.d__law_joint_opens ["_law_joints_here", "_law_joint_here", "_law_numbers_here", "_law_before", "_law_behind"] []
  t__law_all : FunD K "_law_all" "_law_all" (defArgs s__law_all) (defBody s__law_all) (defScope s__law_all) [] [] a.f__law_all a.d__law_all
  m__law_all : mg "_law_all" = some (.ref a.f__law_all)
  b__law_all : L2.Binds K a.d__law_all ["_law_joints_here", "_law_numbers_here", "_law_told", "_law_ground"] []
  t_Weights___mul__ : FunD K "__mul__" "Weights.__mul__" (defArgs s_Weights___mul__) (defBody s_Weights___mul__) (defScope s_Weights___mul__) [] [] a.f_Weights___mul__ a.d_Weights___mul__
  b_Weights___mul__ : L2.Binds K a.d_Weights___mul__ ["self", "other"] []
  t_Weights___add__ : FunD K "__add__" "Weights.__add__" (defArgs s_Weights___add__) (defBody s_Weights___add__) (defScope s_Weights___add__) [] [] a.f_Weights___add__ a.d_Weights___add__
  b_Weights___add__ : L2.Binds K a.d_Weights___add__ ["self", "other"] []
  t_Weights___iter__ : FunD K "__iter__" "Weights.__iter__" (defArgs s_Weights___iter__) (defBody s_Weights___iter__) (defScope s_Weights___iter__) [] [] a.f_Weights___iter__ a.d_Weights___iter__
  b_Weights___iter__ : L2.Binds K a.d_Weights___iter__ ["self"] []
  t__law_other_size : FunD K "_law_other_size" "_law_other_size" (defArgs s__law_other_size) (defBody s__law_other_size) (defScope s__law_other_size) [] [] a.f__law_other_size a.d__law_other_size
  m__law_other_size : mg "_law_other_size" = some (.ref a.f__law_other_size)
  b__law_other_size : L2.Binds K a.d__law_other_size ["_law_bridge", "_law_weights"] []
  t_law : FunD K "law" "law" (defArgs s_law) (defBody s_law) (defScope s_law) [] [] a.f_law a.d_law
  m_law : mg "law" = some (.ref a.f_law)
  b_law : L2.Binds K a.d_law ["_law_script"] []
  m_BridgeError : mg "BridgeError" = some (.ref a.c_BridgeError)
  m_BadForce : mg "BadForce" = some (.ref a.c_BadForce)
  m_BadLoad : mg "BadLoad" = some (.ref a.c_BadLoad)
  m_OtherSize : mg "OtherSize" = some (.ref a.c_OtherSize)
  m_NoStone : mg "NoStone" = some (.ref a.c_NoStone)
  m_NoCorner : mg "NoCorner" = some (.ref a.c_NoCorner)
  m_BadBridge : mg "BadBridge" = some (.ref a.c_BadBridge)
  m_NoPart : mg "NoPart" = some (.ref a.c_NoPart)
  m_BadMotion : mg "BadMotion" = some (.ref a.c_BadMotion)
  m_BadWeights : mg "BadWeights" = some (.ref a.c_BadWeights)
  m_Force : mg "Force" = some (.ref a.c_Force)
  m_Load : mg "Load" = some (.ref a.c_Load)
  m_Bridge : mg "Bridge" = some (.ref a.c_Bridge)
  m_Motion : mg "Motion" = some (.ref a.c_Motion)
  m_Weights : mg "Weights" = some (.ref a.c_Weights)
  cl_Force : L2.Cls K a.c_Force
  na_Force_across : L2.NoAttr K a.c_Force "across"
  na_Force_up : L2.NoAttr K a.c_Force "up"
  na_Force_moment : L2.NoAttr K a.c_Force "moment"
  cl_Load : L2.Cls K a.c_Load
  na_Load_forces : L2.NoAttr K a.c_Load "forces"
  cl_Bridge : L2.Cls K a.c_Bridge
  na_Bridge_joints : L2.NoAttr K a.c_Bridge "joints"
  na_Bridge_stones : L2.NoAttr K a.c_Bridge "stones"
  na_Bridge_corner_count : L2.NoAttr K a.c_Bridge "corner_count"
  na_Bridge_own : L2.NoAttr K a.c_Bridge "own"
  cl_Motion : L2.Cls K a.c_Motion
  na_Motion_across : L2.NoAttr K a.c_Motion "across"
  na_Motion_up : L2.NoAttr K a.c_Motion "up"
  na_Motion_turn : L2.NoAttr K a.c_Motion "turn"
  cl_Weights : L2.Cls K a.c_Weights
  na_Weights_numbers : L2.NoAttr K a.c_Weights "numbers"
  mk_Weights : MkC K mg "Weights" a.c_Weights a.f_Weights___init__ a.d_Weights___init__ ["self", "numbers"] []
  mk_Load : MkC K mg "Load" a.c_Load a.f_Load___init__ a.d_Load___init__ ["self", "forces"] []
  mk_Force : MkC K mg "Force" a.c_Force a.f_Force___init__ a.d_Force___init__ ["self", "across", "up", "moment"] []
  mk_Bridge : MkC K mg "Bridge" a.c_Bridge a.f_Bridge___init__ a.d_Bridge___init__ ["self", "joints", "own"] []
  mk1_Bridge : MkC K mg "Bridge" a.c_Bridge a.f_Bridge___init__ a.d_Bridge___init__ ["self", "joints", "own"] bd1_Bridge___init__.choose
  mk_Motion : MkC K mg "Motion" a.c_Motion a.f_Motion___init__ a.d_Motion___init__ ["self", "turn", "across", "up"] []
  op_Motion___add__ : Opr K a.c_Motion .Add a.f_Motion___add__ a.d_Motion___add__ ["self", "other"]
  op_Weights___mul__ : Opr K a.c_Weights .Mult a.f_Weights___mul__ a.d_Weights___mul__ ["self", "other"]
  op_Weights___add__ : Opr K a.c_Weights .Add a.f_Weights___add__ a.d_Weights___add__ ["self", "other"]
  oi_Weights___mul__ : OprI K a.c_Weights .Mult
  ow_Load___len__ : OwnM K a.c_Load "__len__" a.f_Load___len__ a.d_Load___len__ ["self"]
  ow_Weights___len__ : OwnM K a.c_Weights "__len__" a.f_Weights___len__ a.d_Weights___len__ ["self"]
  ow_Weights___getitem__ : OwnM K a.c_Weights "__getitem__" a.f_Weights___getitem__ a.d_Weights___getitem__ ["self", "at"]
  ow_Weights___iter__ : OwnM K a.c_Weights "__iter__" a.f_Weights___iter__ a.d_Weights___iter__ ["self"]
  cm_Force_none : Cmt K a.c_Force "none" ["cls"] [] a.v_Force_none a.p_Force_none a.f_Force_none a.d_Force_none
  cm_Load_none : Cmt K a.c_Load "none" ["cls", "stones"] [] a.v_Load_none a.p_Load_none a.f_Load_none a.d_Load_none
  cm_Motion_none : Cmt K a.c_Motion "none" ["cls"] [] a.v_Motion_none a.p_Motion_none a.f_Motion_none a.d_Motion_none
  cm_Motion_turning : Cmt K a.c_Motion "turning" ["cls", "point", "turn"] [] a.v_Motion_turning a.p_Motion_turning a.f_Motion_turning a.d_Motion_turning
  mt_Bridge_point : Mtd K a.c_Bridge "point" ["self", "corner"] [] a.f_Bridge_point a.d_Bridge_point
  e_BadForce : ErrN K mg "BadForce" a.c_BadForce a.i_BadForce si_BadForce "BadForce.__init__" a.di_BadForce ["self", "what"]
  xn_BadForce_what : PySem.W.findIn K (.ref a.c_BadForce) "what" = some none
  e_BadLoad : ErrN K mg "BadLoad" a.c_BadLoad a.i_BadLoad si_BadLoad "BadLoad.__init__" a.di_BadLoad ["self", "what"]
  xn_BadLoad_what : PySem.W.findIn K (.ref a.c_BadLoad) "what" = some none
  e_OtherSize : Err0 K mg "OtherSize" a.c_OtherSize a.i_OtherSize si_OtherSize "OtherSize.__init__" a.di_OtherSize
  e_NoCorner : ErrN K mg "NoCorner" a.c_NoCorner a.i_NoCorner si_NoCorner "NoCorner.__init__" a.di_NoCorner ["self", "corner"]
  xn_NoCorner_corner : PySem.W.findIn K (.ref a.c_NoCorner) "corner" = some none
  e_BadBridge : ErrN K mg "BadBridge" a.c_BadBridge a.i_BadBridge si_BadBridge "BadBridge.__init__" a.di_BadBridge ["self", "what", "joint"]
  xn_BadBridge_what : PySem.W.findIn K (.ref a.c_BadBridge) "what" = some none
  xn_BadBridge_joint : PySem.W.findIn K (.ref a.c_BadBridge) "joint" = some none
  e_BadMotion : Err0 K mg "BadMotion" a.c_BadMotion a.i_BadMotion si_BadMotion "BadMotion.__init__" a.di_BadMotion
  e_BadWeights : ErrN K mg "BadWeights" a.c_BadWeights a.i_BadWeights si_BadWeights "BadWeights.__init__" a.di_BadWeights ["self", "what"]
  xn_BadWeights_what : PySem.W.findIn K (.ref a.c_BadWeights) "what" = some none
  xm_BadForce_BridgeError : PySem.W.exmOne K (.ref a.c_BadForce) (.ref a.c_BridgeError) = some true
  xm_BadLoad_BridgeError : PySem.W.exmOne K (.ref a.c_BadLoad) (.ref a.c_BridgeError) = some true
  xm_OtherSize_BridgeError : PySem.W.exmOne K (.ref a.c_OtherSize) (.ref a.c_BridgeError) = some true
  xm_NoCorner_BridgeError : PySem.W.exmOne K (.ref a.c_NoCorner) (.ref a.c_BridgeError) = some true
  xm_BadBridge_BridgeError : PySem.W.exmOne K (.ref a.c_BadBridge) (.ref a.c_BridgeError) = some true
  xm_BadMotion_BridgeError : PySem.W.exmOne K (.ref a.c_BadMotion) (.ref a.c_BridgeError) = some true
  xm_BadWeights_BridgeError : PySem.W.exmOne K (.ref a.c_BadWeights) (.ref a.c_BridgeError) = some true
  y_BadBridge : ExcC K a.c_BadBridge
  y_BadForce : ExcC K a.c_BadForce
  y_BadLoad : ExcC K a.c_BadLoad
  y_BadMotion : ExcC K a.c_BadMotion
  y_BadWeights : ExcC K a.c_BadWeights
  y_NoCorner : ExcC K a.c_NoCorner
  y_OtherSize : ExcC K a.c_OtherSize
  kt_BadBridge_BadWeights : PySem.W.kitOne K (.ref a.c_BadBridge) (.ref a.c_BadWeights) = some false
  kt_BadBridge_OtherSize : PySem.W.kitOne K (.ref a.c_BadBridge) (.ref a.c_OtherSize) = some false
  kt_BadForce_BadWeights : PySem.W.kitOne K (.ref a.c_BadForce) (.ref a.c_BadWeights) = some false
  kt_BadForce_OtherSize : PySem.W.kitOne K (.ref a.c_BadForce) (.ref a.c_OtherSize) = some false
  kt_BadLoad_BadWeights : PySem.W.kitOne K (.ref a.c_BadLoad) (.ref a.c_BadWeights) = some false
  kt_BadLoad_OtherSize : PySem.W.kitOne K (.ref a.c_BadLoad) (.ref a.c_OtherSize) = some false
  kt_BadMotion_BadWeights : PySem.W.kitOne K (.ref a.c_BadMotion) (.ref a.c_BadWeights) = some false
  kt_BadMotion_OtherSize : PySem.W.kitOne K (.ref a.c_BadMotion) (.ref a.c_OtherSize) = some false
  kt_BadWeights_BadWeights : PySem.W.kitOne K (.ref a.c_BadWeights) (.ref a.c_BadWeights) = some true
  kt_BadWeights_OtherSize : PySem.W.kitOne K (.ref a.c_BadWeights) (.ref a.c_OtherSize) = some false
  kt_Bridge_Force : PySem.W.kitOne K (.ref a.c_Bridge) (.ref a.c_Force) = some false
  kt_Bridge_Load : PySem.W.kitOne K (.ref a.c_Bridge) (.ref a.c_Load) = some false
  kt_Bridge_Motion : PySem.W.kitOne K (.ref a.c_Bridge) (.ref a.c_Motion) = some false
  kt_Bridge_bool : PySem.W.kitOne K (.ref a.c_Bridge) (.type "bool") = some false
  kt_Bridge_int : PySem.W.kitOne K (.ref a.c_Bridge) (.type "int") = some false
  kt_Bridge_list : PySem.W.kitOne K (.ref a.c_Bridge) (.type "list") = some false
  kt_Bridge_tuple : PySem.W.kitOne K (.ref a.c_Bridge) (.type "tuple") = some false
  kt_Force_Force : PySem.W.kitOne K (.ref a.c_Force) (.ref a.c_Force) = some true
  kt_Force_Load : PySem.W.kitOne K (.ref a.c_Force) (.ref a.c_Load) = some false
  kt_Force_Motion : PySem.W.kitOne K (.ref a.c_Force) (.ref a.c_Motion) = some false
  kt_Force_bool : PySem.W.kitOne K (.ref a.c_Force) (.type "bool") = some false
  kt_Force_int : PySem.W.kitOne K (.ref a.c_Force) (.type "int") = some false
  kt_Force_list : PySem.W.kitOne K (.ref a.c_Force) (.type "list") = some false
  kt_Force_tuple : PySem.W.kitOne K (.ref a.c_Force) (.type "tuple") = some false
  kt_Load_Force : PySem.W.kitOne K (.ref a.c_Load) (.ref a.c_Force) = some false
  kt_Load_Load : PySem.W.kitOne K (.ref a.c_Load) (.ref a.c_Load) = some true
  kt_Load_Motion : PySem.W.kitOne K (.ref a.c_Load) (.ref a.c_Motion) = some false
  kt_Load_bool : PySem.W.kitOne K (.ref a.c_Load) (.type "bool") = some false
  kt_Load_int : PySem.W.kitOne K (.ref a.c_Load) (.type "int") = some false
  kt_Load_list : PySem.W.kitOne K (.ref a.c_Load) (.type "list") = some false
  kt_Load_tuple : PySem.W.kitOne K (.ref a.c_Load) (.type "tuple") = some false
  kt_Motion_Force : PySem.W.kitOne K (.ref a.c_Motion) (.ref a.c_Force) = some false
  kt_Motion_Load : PySem.W.kitOne K (.ref a.c_Motion) (.ref a.c_Load) = some false
  kt_Motion_Motion : PySem.W.kitOne K (.ref a.c_Motion) (.ref a.c_Motion) = some true
  kt_Motion_bool : PySem.W.kitOne K (.ref a.c_Motion) (.type "bool") = some false
  kt_Motion_int : PySem.W.kitOne K (.ref a.c_Motion) (.type "int") = some false
  kt_Motion_list : PySem.W.kitOne K (.ref a.c_Motion) (.type "list") = some false
  kt_Motion_tuple : PySem.W.kitOne K (.ref a.c_Motion) (.type "tuple") = some false
  kt_NoCorner_BadWeights : PySem.W.kitOne K (.ref a.c_NoCorner) (.ref a.c_BadWeights) = some false
  kt_NoCorner_OtherSize : PySem.W.kitOne K (.ref a.c_NoCorner) (.ref a.c_OtherSize) = some false
  kt_NoneType_Force : PySem.W.kitOne K (.type "NoneType") (.ref a.c_Force) = some false
  kt_NoneType_Load : PySem.W.kitOne K (.type "NoneType") (.ref a.c_Load) = some false
  kt_NoneType_Motion : PySem.W.kitOne K (.type "NoneType") (.ref a.c_Motion) = some false
  kt_OtherSize_BadWeights : PySem.W.kitOne K (.ref a.c_OtherSize) (.ref a.c_BadWeights) = some false
  kt_OtherSize_OtherSize : PySem.W.kitOne K (.ref a.c_OtherSize) (.ref a.c_OtherSize) = some true
  kt_Weights_Force : PySem.W.kitOne K (.ref a.c_Weights) (.ref a.c_Force) = some false
  kt_Weights_Load : PySem.W.kitOne K (.ref a.c_Weights) (.ref a.c_Load) = some false
  kt_Weights_Motion : PySem.W.kitOne K (.ref a.c_Weights) (.ref a.c_Motion) = some false
  kt_Weights_bool : PySem.W.kitOne K (.ref a.c_Weights) (.type "bool") = some false
  kt_Weights_int : PySem.W.kitOne K (.ref a.c_Weights) (.type "int") = some false
  kt_Weights_list : PySem.W.kitOne K (.ref a.c_Weights) (.type "list") = some false
  kt_Weights_tuple : PySem.W.kitOne K (.ref a.c_Weights) (.type "tuple") = some false
  kt_bool_Force : PySem.W.kitOne K (.type "bool") (.ref a.c_Force) = some false
  kt_bool_Load : PySem.W.kitOne K (.type "bool") (.ref a.c_Load) = some false
  kt_bool_Motion : PySem.W.kitOne K (.type "bool") (.ref a.c_Motion) = some false
  kt_int_Force : PySem.W.kitOne K (.type "int") (.ref a.c_Force) = some false
  kt_int_Load : PySem.W.kitOne K (.type "int") (.ref a.c_Load) = some false
  kt_int_Motion : PySem.W.kitOne K (.type "int") (.ref a.c_Motion) = some false
  kt_list_Force : PySem.W.kitOne K (.type "list") (.ref a.c_Force) = some false
  kt_list_Load : PySem.W.kitOne K (.type "list") (.ref a.c_Load) = some false
  kt_list_Motion : PySem.W.kitOne K (.type "list") (.ref a.c_Motion) = some false
  kt_str_Force : PySem.W.kitOne K (.type "str") (.ref a.c_Force) = some false
  kt_str_Load : PySem.W.kitOne K (.type "str") (.ref a.c_Load) = some false
  kt_str_Motion : PySem.W.kitOne K (.type "str") (.ref a.c_Motion) = some false
  kt_tuple_Force : PySem.W.kitOne K (.type "tuple") (.ref a.c_Force) = some false
  kt_tuple_Load : PySem.W.kitOne K (.type "tuple") (.ref a.c_Load) = some false
  kt_tuple_Motion : PySem.W.kitOne K (.type "tuple") (.ref a.c_Motion) = some false
  isc_Bridge : Isc K a.c_Bridge
  isc_Force : Isc K a.c_Force
  isc_Load : Isc K a.c_Load
  isc_Motion : Isc K a.c_Motion
  isc_Weights : Isc K a.c_Weights
  gi_MOST_CORNERS : mg "MOST_CORNERS" = some (.int 18 a.tk_MOST_CORNERS)
  gi_LEAST_CORNERS : mg "LEAST_CORNERS" = some (.int 4 a.tk_LEAST_CORNERS)
  gi_MOST_STONES : mg "MOST_STONES" = some (.int 8 a.tk_MOST_STONES)
  gi_FARTHEST : mg "FARTHEST" = some (.int 1000000 a.tk_FARTHEST)
  n_abs : mg "abs" = none
  n_all : mg "all" = none
  n_bool : mg "bool" = none
  n_enumerate : mg "enumerate" = none
  n_int : mg "int" = none
  n_isinstance : mg "isinstance" = none
  n_iter : mg "iter" = none
  n_len : mg "len" = none
  n_list : mg "list" = none
  n_range : mg "range" = none
  n_tuple : mg "tuple" = none
  n_zip : mg "zip" = none
noncomputable section
variable {P : Program} {w : World} {K : PySem.W.Frag} {mg : Str → Option Value} {base : Heap} {a : Ad}
theorem isaO (T : Txt K mg a) : ∀ t c b, ans t c = some b → PySem.W.kitOne K (tyV (gt a) t) (tyV (gt a) c) = some b := by
  intro t c b h
  unfold ans at h
  split at h
  · cases h; exact T.kt_Bridge_Force
  · cases h; exact T.kt_Bridge_Load
  · cases h; exact T.kt_Bridge_Motion
  · cases h; exact T.kt_Bridge_bool
  · cases h; exact T.kt_Bridge_int
  · cases h; exact T.kt_Bridge_list
  · cases h; exact T.kt_Bridge_tuple
  · cases h; exact T.kt_Force_Force
  · cases h; exact T.kt_Force_Load
  · cases h; exact T.kt_Force_Motion
  · cases h; exact T.kt_Force_bool
  · cases h; exact T.kt_Force_int
  · cases h; exact T.kt_Force_list
  · cases h; exact T.kt_Force_tuple
  · cases h; exact T.kt_Load_Force
  · cases h; exact T.kt_Load_Load
  · cases h; exact T.kt_Load_Motion
  · cases h; exact T.kt_Load_bool
  · cases h; exact T.kt_Load_int
  · cases h; exact T.kt_Load_list
  · cases h; exact T.kt_Load_tuple
  · cases h; exact T.kt_Motion_Force
  · cases h; exact T.kt_Motion_Load
  · cases h; exact T.kt_Motion_Motion
  · cases h; exact T.kt_Motion_bool
  · cases h; exact T.kt_Motion_int
  · cases h; exact T.kt_Motion_list
  · cases h; exact T.kt_Motion_tuple
  · cases h; exact T.kt_NoneType_Force
  · cases h; exact T.kt_NoneType_Load
  · cases h; exact T.kt_NoneType_Motion
  · cases h; exact T.kt_Weights_Force
  · cases h; exact T.kt_Weights_Load
  · cases h; exact T.kt_Weights_Motion
  · cases h; exact T.kt_Weights_bool
  · cases h; exact T.kt_Weights_int
  · cases h; exact T.kt_Weights_list
  · cases h; exact T.kt_Weights_tuple
  · cases h; exact T.kt_bool_Force
  · cases h; exact T.kt_bool_Load
  · cases h; exact T.kt_bool_Motion
  · cases h; exact T.kt_int_Force
  · cases h; exact T.kt_int_Load
  · cases h; exact T.kt_int_Motion
  · cases h; exact T.kt_list_Force
  · cases h; exact T.kt_list_Load
  · cases h; exact T.kt_list_Motion
  · cases h; exact T.kt_str_Force
  · cases h; exact T.kt_str_Load
  · cases h; exact T.kt_str_Motion
  · cases h; exact T.kt_tuple_Force
  · cases h; exact T.kt_tuple_Load
  · cases h; exact T.kt_tuple_Motion
  · cases h
theorem isaE (T : Txt K mg a) : ∀ t c b, ansE t c = some b → PySem.W.kitOne K (tyV (gt a) t) (tyV (gt a) c) = some b := by
  intro t c b h
  unfold ansE at h
  split at h
  · cases h; exact T.kt_BadBridge_BadWeights
  · cases h; exact T.kt_BadBridge_OtherSize
  · cases h; exact T.kt_BadForce_BadWeights
  · cases h; exact T.kt_BadForce_OtherSize
  · cases h; exact T.kt_BadLoad_BadWeights
  · cases h; exact T.kt_BadLoad_OtherSize
  · cases h; exact T.kt_BadMotion_BadWeights
  · cases h; exact T.kt_BadMotion_OtherSize
  · cases h; exact T.kt_BadWeights_BadWeights
  · cases h; exact T.kt_BadWeights_OtherSize
  · cases h; exact T.kt_NoCorner_BadWeights
  · cases h; exact T.kt_NoCorner_OtherSize
  · cases h; exact T.kt_OtherSize_BadWeights
  · cases h; exact T.kt_OtherSize_OtherSize
  · cases h
theorem isa (T : Txt K mg a) : IsA (gt a) K ans := by
  refine ⟨isaO T, ?_⟩
  intro n c b h
  unfold ans at h
  split at h
  · rename_i hn; cases hn; exact T.isc_Bridge
  · rename_i hn; cases hn; exact T.isc_Bridge
  · rename_i hn; cases hn; exact T.isc_Bridge
  · rename_i hn; cases hn; exact T.isc_Bridge
  · rename_i hn; cases hn; exact T.isc_Bridge
  · rename_i hn; cases hn; exact T.isc_Bridge
  · rename_i hn; cases hn; exact T.isc_Bridge
  · rename_i hn; cases hn; exact T.isc_Force
  · rename_i hn; cases hn; exact T.isc_Force
  · rename_i hn; cases hn; exact T.isc_Force
  · rename_i hn; cases hn; exact T.isc_Force
  · rename_i hn; cases hn; exact T.isc_Force
  · rename_i hn; cases hn; exact T.isc_Force
  · rename_i hn; cases hn; exact T.isc_Force
  · rename_i hn; cases hn; exact T.isc_Load
  · rename_i hn; cases hn; exact T.isc_Load
  · rename_i hn; cases hn; exact T.isc_Load
  · rename_i hn; cases hn; exact T.isc_Load
  · rename_i hn; cases hn; exact T.isc_Load
  · rename_i hn; cases hn; exact T.isc_Load
  · rename_i hn; cases hn; exact T.isc_Load
  · rename_i hn; cases hn; exact T.isc_Motion
  · rename_i hn; cases hn; exact T.isc_Motion
  · rename_i hn; cases hn; exact T.isc_Motion
  · rename_i hn; cases hn; exact T.isc_Motion
  · rename_i hn; cases hn; exact T.isc_Motion
  · rename_i hn; cases hn; exact T.isc_Motion
  · rename_i hn; cases hn; exact T.isc_Motion
  · rename_i hn; cases hn
  · rename_i hn; cases hn
  · rename_i hn; cases hn
  · rename_i hn; cases hn; exact T.isc_Weights
  · rename_i hn; cases hn; exact T.isc_Weights
  · rename_i hn; cases hn; exact T.isc_Weights
  · rename_i hn; cases hn; exact T.isc_Weights
  · rename_i hn; cases hn; exact T.isc_Weights
  · rename_i hn; cases hn; exact T.isc_Weights
  · rename_i hn; cases hn; exact T.isc_Weights
  · rename_i hn; cases hn
  · rename_i hn; cases hn
  · rename_i hn; cases hn
  · rename_i hn; cases hn
  · rename_i hn; cases hn
  · rename_i hn; cases hn
  · rename_i hn; cases hn
  · rename_i hn; cases hn
  · rename_i hn; cases hn
  · rename_i hn; cases hn
  · rename_i hn; cases hn
  · rename_i hn; cases hn
  · rename_i hn; cases hn
  · rename_i hn; cases hn
  · rename_i hn; cases hn
  · cases h
theorem fk_numbers (T : Txt K mg a) : FldOk (gt a) K "numbers" cf_numbers := by
  intro n h
  unfold cf_numbers at h
  split at h
  · exact ⟨T.cl_Weights, T.na_Weights_numbers⟩
  · cases h
theorem fk_joints (T : Txt K mg a) : FldOk (gt a) K "joints" cf_joints := by
  intro n h
  unfold cf_joints at h
  split at h
  · exact ⟨T.cl_Bridge, T.na_Bridge_joints⟩
  · cases h
theorem fk_stones (T : Txt K mg a) : FldOk (gt a) K "stones" cf_stones := by
  intro n h
  unfold cf_stones at h
  split at h
  · exact ⟨T.cl_Bridge, T.na_Bridge_stones⟩
  · cases h
theorem fk_corner_count (T : Txt K mg a) : FldOk (gt a) K "corner_count" cf_corner_count := by
  intro n h
  unfold cf_corner_count at h
  split at h
  · exact ⟨T.cl_Bridge, T.na_Bridge_corner_count⟩
  · cases h
theorem fk_forces (T : Txt K mg a) : FldOk (gt a) K "forces" cf_forces := by
  intro n h
  unfold cf_forces at h
  split at h
  · exact ⟨T.cl_Load, T.na_Load_forces⟩
  · cases h
theorem fk_across (T : Txt K mg a) : FldOk (gt a) K "across" cf_across := by
  intro n h
  unfold cf_across at h
  split at h
  · exact ⟨T.cl_Force, T.na_Force_across⟩
  · exact ⟨T.cl_Motion, T.na_Motion_across⟩
  · cases h
theorem fk_up (T : Txt K mg a) : FldOk (gt a) K "up" cf_up := by
  intro n h
  unfold cf_up at h
  split at h
  · exact ⟨T.cl_Force, T.na_Force_up⟩
  · exact ⟨T.cl_Motion, T.na_Motion_up⟩
  · cases h
theorem fk_moment (T : Txt K mg a) : FldOk (gt a) K "moment" cf_moment := by
  intro n h
  unfold cf_moment at h
  split at h
  · exact ⟨T.cl_Force, T.na_Force_moment⟩
  · cases h
theorem fk_own (T : Txt K mg a) : FldOk (gt a) K "own" cf_own := by
  intro n h
  unfold cf_own at h
  split at h
  · exact ⟨T.cl_Bridge, T.na_Bridge_own⟩
  · cases h
theorem fk_turn (T : Txt K mg a) : FldOk (gt a) K "turn" cf_turn := by
  intro n h
  unfold cf_turn at h
  split at h
  · exact ⟨T.cl_Motion, T.na_Motion_turn⟩
  · cases h
theorem hmt_BridgeError (T : Txt K mg a) : ∀ c b, mt_BridgeError c = some b → PySem.W.exmOne K (.ref ((gt a).cls c)) (.ref ((gt a).cls 0)) = some b := by
  intro c b h
  unfold mt_BridgeError at h
  split at h
  · cases h; exact T.xm_BadForce_BridgeError
  · cases h; exact T.xm_BadLoad_BridgeError
  · cases h; exact T.xm_OtherSize_BridgeError
  · cases h; exact T.xm_NoCorner_BridgeError
  · cases h; exact T.xm_BadBridge_BridgeError
  · cases h; exact T.xm_BadMotion_BridgeError
  · cases h; exact T.xm_BadWeights_BridgeError
  · cases h
theorem ec_BridgeError (T : Txt K mg a) {c : Nat} (h : mt_BridgeError c = some true) : ExcC K ((gt a).cls c) := by
  unfold mt_BridgeError at h
  split at h
  · exact T.y_BadForce
  · exact T.y_BadLoad
  · exact T.y_OtherSize
  · exact T.y_NoCorner
  · exact T.y_BadBridge
  · exact T.y_BadMotion
  · exact T.y_BadWeights
  · cases h
theorem xf_BridgeError (T : Txt K mg a) {c : Nat} (h : mt_BridgeError c = some true) : XfC K ((gt a).cls c) := ⟨(ec_BridgeError T h).hg, (ec_BridgeError T h).hk, (ec_BridgeError T h).hs, (ec_BridgeError T h).hd⟩
theorem oke_BadForce (T : Txt K mg a) : FnOk P w K mg base (L2.CX P w) 1 a.i_BadForce a.di_BadForce ["self", "what"] (spX1 a.c_BadForce "what") := ok_x1 T.e_BadForce.fn sci_BadForce rfl T.e_BadForce.ox T.xn_BadForce_what
theorem oke_BadLoad (T : Txt K mg a) : FnOk P w K mg base (L2.CX P w) 1 a.i_BadLoad a.di_BadLoad ["self", "what"] (spX1 a.c_BadLoad "what") := ok_x1 T.e_BadLoad.fn sci_BadLoad rfl T.e_BadLoad.ox T.xn_BadLoad_what
theorem oke_NoCorner (T : Txt K mg a) : FnOk P w K mg base (L2.CX P w) 1 a.i_NoCorner a.di_NoCorner ["self", "corner"] (spX1 a.c_NoCorner "corner") := ok_x1 T.e_NoCorner.fn sci_NoCorner rfl T.e_NoCorner.ox T.xn_NoCorner_corner
theorem oke_BadBridge (T : Txt K mg a) : FnOk P w K mg base (L2.CX P w) 1 a.i_BadBridge a.di_BadBridge ["self", "what", "joint"] (spX2 a.c_BadBridge "what" "joint") := ok_x2 T.e_BadBridge.fn sci_BadBridge rfl T.e_BadBridge.ox T.xn_BadBridge_what T.xn_BadBridge_joint
theorem oke_BadWeights (T : Txt K mg a) : FnOk P w K mg base (L2.CX P w) 1 a.i_BadWeights a.di_BadWeights ["self", "what"] (spX1 a.c_BadWeights "what") := ok_x1 T.e_BadWeights.fn sci_BadWeights rfl T.e_BadWeights.ox T.xn_BadWeights_what
def b__law_take_0 : MS := (zIf (kB (kOp gtI (bagGet (mvar 0) .rest) (kC (.int 0)))) (sseq (sasg (kOp fmdI (kCall intD (aCons (bagGet (mvar 0) .rest) aNil)) (mvar 1)) (gnm 2)) (sseq (bagPut (mvar 0) (kOp fdvI (bagGet (mvar 0) .rest) (mvar 1)) .rest) (zRet (mvar 2)))) zNx)
def b__law_take_1 : MS := (bagPut (mvar 0) (kOp addIL (bagGet (mvar 0) .turn) (kC (.int 1))) .turn)
def b__law_take_2 : MS := (bagPut (mvar 0) (kOp fmdI (kCall intD (aCons (kOp addIL (kOp addIL (kOp mulI (bagGet (mvar 0) .seed) (kC (.int 48271))) (kOp mulI (kC (.int 11)) (bagGet (mvar 0) .turn))) (kC (.int 7))) aNil)) (kC (.int 2147483647))) .seed)
def b__law_take_3 : MS := (zRet (kOp fmdI (kOp fdvI (kOp fmdI (kCall intD (aCons (kOp mulI (bagGet (mvar 0) .seed) (kC (.int 16807))) aNil)) (kC (.int 2147483629))) (kC (.int 64))) (mvar 1)))
def b__law_take : MS := (sseq b__law_take_0 (sseq b__law_take_1 (sseq b__law_take_2 b__law_take_3)))
def m__law_take : List D → M D := mdef 3 b__law_take
theorem ok__law_take (T : Txt K mg a) : FnOk P w K mg base (L2.CX P w) 1 a.f__law_take a.d__law_take ["_law_bag_here", "_law_many"] (spM (gt a) 2 m__law_take) :=
  ok_fd T.t__law_take sc__law_take rfl fun cdv A outer s H E hr => by
    have tk0 := takes_of (X := (cxOf (L2.CX P w) P w K mg base ["_law_bag_here", "_law_many", "_law_digit"] "_law_take" (defScope s__law_take) a.f__law_take cdv A outer s H E)) (E := E) rfl rfl rfl rfl
    have po0 : PassesOwn (model P w) (cxOf (L2.CX P w) P w K mg base ["_law_bag_here", "_law_many", "_law_digit"] "_law_take" (defScope s__law_take) a.f__law_take cdv A outer s H E).A (cxOf (L2.CX P w) P w K mg base ["_law_bag_here", "_law_many", "_law_digit"] "_law_take" (defScope s__law_take) a.f__law_take cdv A outer s H E).env (cxOf (L2.CX P w) P w K mg base ["_law_bag_here", "_law_many", "_law_digit"] "_law_take" (defScope s__law_take) a.f__law_take cdv A outer s H E).xe := passes_of rfl
    exact ⟨_, (dss_cons (z_if (q_cmp op_gt prim_gt (de_bagGet .rest rfl (de_var 0) rfl) x_int) (dss_cons (ds_set (i := 2) sc__law_take.nd (x_op op_modN prim_fmd (x_callTy call_int1 prim_int T.n_int (by decide +kernel) (a_cons (de_bagGet .rest rfl (de_var 0) rfl) a_nil)) (de_var 1))) (dss_cons (ds_bagPut .rest (de_var 0) (x_op op_fdivX prim_fdv (de_bagGet .rest rfl (de_var 0) rfl) (de_var 1)) rfl) (dss_one (z_ret (de_var 2))))) z_nil) (dss_cons (ds_bagPut .turn (de_var 0) (x_op (op_add.or op_cat) prim_addIL (de_bagGet .turn rfl (de_var 0) rfl) x_int) rfl) (dss_cons (ds_bagPut .seed (de_var 0) (x_op op_modN prim_fmd (x_callTy call_int1 prim_int T.n_int (by decide +kernel) (a_cons (x_op (op_add.or op_cat) prim_addIL (x_op (op_add.or op_cat) prim_addIL (x_op op_mulX prim_mul (de_bagGet .seed rfl (de_var 0) rfl) x_int) (x_op op_mulX prim_mul x_int (de_bagGet .turn rfl (de_var 0) rfl))) x_int) a_nil)) x_int) rfl) (dss_one (z_ret (x_op op_modN prim_fmd (x_op op_fdivX prim_fdv (x_op op_modN prim_fmd (x_callTy call_int1 prim_int T.n_int (by decide +kernel) (a_cons (x_op op_mulX prim_mul (de_bagGet .seed rfl (de_var 0) rfl) x_int) a_nil)) x_int) x_int) (de_var 1)))))))⟩

def b__law_of : MS := (zRet (kOp itemD (mvar 1) (kCall m__law_take (aCons (mvar 0) (aCons (kCall lenD (aCons (mvar 1) aNil)) aNil)))))
def m__law_of : List D → M D := mdef 2 b__law_of
theorem ok__law_of (T : Txt K mg a) : FnOk P w K mg base (L2.CX P w) 2 a.f__law_of a.d__law_of ["_law_bag_here", "_law_some"] (spM (gt a) 2 m__law_of) :=
  ok_fd T.t__law_of sc__law_of rfl fun cdv A outer s H E hr => by
    have tk0 := takes_of (X := (cxOf (L2.CX P w) P w K mg base ["_law_bag_here", "_law_some"] "_law_of" (defScope s__law_of) a.f__law_of cdv A outer s H E)) (E := E) rfl rfl rfl rfl
    have po0 : PassesOwn (model P w) (cxOf (L2.CX P w) P w K mg base ["_law_bag_here", "_law_some"] "_law_of" (defScope s__law_of) a.f__law_of cdv A outer s H E).A (cxOf (L2.CX P w) P w K mg base ["_law_bag_here", "_law_some"] "_law_of" (defScope s__law_of) a.f__law_of cdv A outer s H E).env (cxOf (L2.CX P w) P w K mg base ["_law_bag_here", "_law_some"] "_law_of" (defScope s__law_of) a.f__law_of cdv A outer s H E).xe := passes_of rfl
    exact ⟨_, (dss_one (z_ret (x_ix rfl (de_var 1) (x_call (ok__law_take T) (hr.mono (by decide)) tk0 T.m__law_take T.t__law_take.kp T.b__law_take (a_cons (de_var 0) (a_cons (x_callB (cr_len rfl) (prim_len) T.n_len (by decide +kernel) (a_cons (de_var 1) a_nil)) a_nil)) (l_cons (l_cons l_nil))))))⟩

def b__law_joint_0 : MS := (zIf (kB (kOp eqA (mvar 3) (kC (.int 0)))) (sseq (spar 1 2 (aCons (kOp addIL (mvar 1) (kCall m__law_of (aCons (mvar 0) (aCons (kCall lstD (aCons (kC (.int 0)) (aCons (kC (.int 0)) (aCons (kC (.int 0)) (aCons (kC (.int 1)) (aCons (kUn negI (kC (.int 1))) aNil)))))) aNil)))) (aCons (kOp addIL (mvar 2) (kCall m__law_of (aCons (mvar 0) (aCons (kCall lstD (aCons (kC (.int 0)) (aCons (kC (.int 0)) (aCons (kC (.int 0)) (aCons (kC (.int 1)) (aCons (kUn negI (kC (.int 1))) aNil)))))) aNil)))) aNil))) (zRet (kCall tupD (aCons (kCall tupD (aCons (mvar 1) (aCons (mvar 2) aNil))) (aCons (kCall tupD (aCons (kOp addIL (mvar 1) (kCall m__law_of (aCons (mvar 0) (aCons (kCall lstD (aCons (kC (.int 0)) (aCons (kC (.int 0)) (aCons (kC (.int 0)) (aCons (kC (.int 1)) (aCons (kUn negI (kC (.int 1))) aNil)))))) aNil)))) (aCons (kOp addIL (kOp addIL (mvar 2) (kC (.int 1))) (kCall m__law_take (aCons (mvar 0) (aCons (kC (.int 3)) aNil)))) aNil))) aNil))))) zNx)
def b__law_joint_1 : MS := (zIf (kB (kOp eqA (mvar 3) (kC (.int 1)))) (spar 6 5 (aCons (kCall tupD (aCons (kCall m__law_take (aCons (mvar 0) (aCons (kC (.int 4)) aNil))) (aCons (kCall m__law_take (aCons (mvar 0) (aCons (kC (.int 4)) aNil))) aNil))) (aCons (kCall tupD (aCons (kCall m__law_take (aCons (mvar 0) (aCons (kC (.int 4)) aNil))) (aCons (kCall m__law_take (aCons (mvar 0) (aCons (kC (.int 4)) aNil))) aNil))) aNil))) (zIf (kB (kOp eqA (mvar 3) (kC (.int 2)))) (sseq (sasg (kCall m__law_take (aCons (mvar 0) (aCons (kC (.int 9)) aNil))) (gnm 7)) (sseq (sasg (kOp addIL (mvar 7) (kCall m__law_of (aCons (mvar 0) (aCons (kCall lstD (aCons (kC (.int 1)) (aCons (kC (.int 1)) (aCons (kC (.int 2)) (aCons (kC (.int 3)) (aCons (kUn negI (kC (.int 1))) aNil)))))) aNil)))) (gnm 8)) (spar 6 5 (aCons (kCall tupD (aCons (mvar 7) (aCons (kOp mulI (mvar 4) (mvar 7)) aNil))) (aCons (kCall tupD (aCons (mvar 8) (aCons (kOp mulI (mvar 4) (mvar 8)) aNil))) aNil))))) (sseq (sasg (kOp addIL (kOp mulI (kC (.int 2)) (kOp powI (kC (.int 10)) (kC (.int 6)))) (kC (.int 1))) (gnm 9)) (sseq (sasg (kCall tupD (aCons (kOp subI (kCall m__law_take (aCons (mvar 0) (aCons (mvar 9) aNil))) (kOp powI (kC (.int 10)) (kC (.int 6)))) (aCons (kOp subI (kCall m__law_take (aCons (mvar 0) (aCons (mvar 9) aNil))) (kOp powI (kC (.int 10)) (kC (.int 6)))) aNil))) (gnm 6)) (sasg (kCall tupD (aCons (kOp subI (kCall m__law_take (aCons (mvar 0) (aCons (mvar 9) aNil))) (kOp powI (kC (.int 10)) (kC (.int 6)))) (aCons (kOp subI (kCall m__law_take (aCons (mvar 0) (aCons (mvar 9) aNil))) (kOp powI (kC (.int 10)) (kC (.int 6)))) aNil))) (gnm 5))))))
def b__law_joint_2 : MS := (zIf (kB (kOp eqA (mvar 6) (mvar 5))) (sasg (kCall tupD (aCons (kOp itemD (mvar 5) (kC (.int 0))) (aCons (kIf (kB (kOp gtI (kOp itemD (mvar 5) (kC (.int 1))) (kC (.int 0)))) (kOp subI (kOp itemD (mvar 5) (kC (.int 1))) (kC (.int 1))) (kOp addIL (kOp itemD (mvar 5) (kC (.int 1))) (kC (.int 1)))) aNil))) (gnm 5)) zNx)
def b__law_joint_3 : MS := (zRet (kCall tupD (aCons (mvar 6) (aCons (mvar 5) aNil))))
def b__law_joint : MS := (sseq b__law_joint_0 (sseq b__law_joint_1 (sseq b__law_joint_2 b__law_joint_3)))
def m__law_joint : List D → M D := mdef 10 b__law_joint
theorem ok__law_joint (T : Txt K mg a) : FnOk P w K mg base (L2.CX P w) 3 a.f__law_joint a.d__law_joint ["_law_bag_here", "_law_x", "_law_y", "_law_kind", "_law_slope"] (spM (gt a) 5 m__law_joint) :=
  ok_fd T.t__law_joint sc__law_joint rfl fun cdv A outer s H E hr => by
    have tk0 := takes_of (X := (cxOf (L2.CX P w) P w K mg base ["_law_bag_here", "_law_x", "_law_y", "_law_kind", "_law_slope", "_law_outer", "_law_inner", "_law_at_here", "_law_to", "_law_great"] "_law_joint" (defScope s__law_joint) a.f__law_joint cdv A outer s H E)) (E := E) rfl rfl rfl rfl
    have po0 : PassesOwn (model P w) (cxOf (L2.CX P w) P w K mg base ["_law_bag_here", "_law_x", "_law_y", "_law_kind", "_law_slope", "_law_outer", "_law_inner", "_law_at_here", "_law_to", "_law_great"] "_law_joint" (defScope s__law_joint) a.f__law_joint cdv A outer s H E).A (cxOf (L2.CX P w) P w K mg base ["_law_bag_here", "_law_x", "_law_y", "_law_kind", "_law_slope", "_law_outer", "_law_inner", "_law_at_here", "_law_to", "_law_great"] "_law_joint" (defScope s__law_joint) a.f__law_joint cdv A outer s H E).env (cxOf (L2.CX P w) P w K mg base ["_law_bag_here", "_law_x", "_law_y", "_law_kind", "_law_slope", "_law_outer", "_law_inner", "_law_at_here", "_law_to", "_law_great"] "_law_joint" (defScope s__law_joint) a.f__law_joint cdv A outer s H E).xe := passes_of rfl
    exact ⟨_, (dss_cons (z_if (q_cmp (op_eqA rfl hr.units) prim_eq (de_var 3) x_int) (dss_cons (ds_par (i := 1) (j := 2) rfl sc__law_joint.nd rfl rfl (by decide) rfl rfl (a_cons (x_op (op_add.or op_cat) prim_addIL (de_var 1) (x_call (ok__law_of T) (hr.mono (by decide)) tk0 T.m__law_of T.t__law_of.kp T.b__law_of (a_cons (de_var 0) (a_cons (x_lst (a_cons x_int (a_cons x_int (a_cons x_int (a_cons x_int (a_cons (x_un un_neg prim_neg x_int) a_nil)))))) a_nil)) (l_cons (l_cons l_nil)))) (a_cons (x_op (op_add.or op_cat) prim_addIL (de_var 2) (x_call (ok__law_of T) (hr.mono (by decide)) tk0 T.m__law_of T.t__law_of.kp T.b__law_of (a_cons (de_var 0) (a_cons (x_lst (a_cons x_int (a_cons x_int (a_cons x_int (a_cons x_int (a_cons (x_un un_neg prim_neg x_int) a_nil)))))) a_nil)) (l_cons (l_cons l_nil)))) a_nil))) (dss_one (z_ret (x_tup (a_cons (x_tup (a_cons (de_var 1) (a_cons (de_var 2) a_nil))) (a_cons (x_tup (a_cons (x_op (op_add.or op_cat) prim_addIL (de_var 1) (x_call (ok__law_of T) (hr.mono (by decide)) tk0 T.m__law_of T.t__law_of.kp T.b__law_of (a_cons (de_var 0) (a_cons (x_lst (a_cons x_int (a_cons x_int (a_cons x_int (a_cons x_int (a_cons (x_un un_neg prim_neg x_int) a_nil)))))) a_nil)) (l_cons (l_cons l_nil)))) (a_cons (x_op (op_add.or op_cat) prim_addIL (x_op (op_add.or op_cat) prim_addIL (de_var 2) x_int) (x_call (ok__law_take T) (hr.mono (by decide)) tk0 T.m__law_take T.t__law_take.kp T.b__law_take (a_cons (de_var 0) (a_cons x_int a_nil)) (l_cons (l_cons l_nil)))) a_nil))) a_nil)))))) z_nil) (dss_cons (z_if (q_cmp (op_eqA rfl hr.units) prim_eq (de_var 3) x_int) (dss_one (ds_par (i := 6) (j := 5) rfl sc__law_joint.nd rfl rfl (by decide) rfl rfl (a_cons (x_tup (a_cons (x_call (ok__law_take T) (hr.mono (by decide)) tk0 T.m__law_take T.t__law_take.kp T.b__law_take (a_cons (de_var 0) (a_cons x_int a_nil)) (l_cons (l_cons l_nil))) (a_cons (x_call (ok__law_take T) (hr.mono (by decide)) tk0 T.m__law_take T.t__law_take.kp T.b__law_take (a_cons (de_var 0) (a_cons x_int a_nil)) (l_cons (l_cons l_nil))) a_nil))) (a_cons (x_tup (a_cons (x_call (ok__law_take T) (hr.mono (by decide)) tk0 T.m__law_take T.t__law_take.kp T.b__law_take (a_cons (de_var 0) (a_cons x_int a_nil)) (l_cons (l_cons l_nil))) (a_cons (x_call (ok__law_take T) (hr.mono (by decide)) tk0 T.m__law_take T.t__law_take.kp T.b__law_take (a_cons (de_var 0) (a_cons x_int a_nil)) (l_cons (l_cons l_nil))) a_nil))) a_nil)))) (dss_one (z_if (q_cmp (op_eqA rfl hr.units) prim_eq (de_var 3) x_int) (dss_cons (ds_set (i := 7) sc__law_joint.nd (x_call (ok__law_take T) (hr.mono (by decide)) tk0 T.m__law_take T.t__law_take.kp T.b__law_take (a_cons (de_var 0) (a_cons x_int a_nil)) (l_cons (l_cons l_nil)))) (dss_cons (ds_set (i := 8) sc__law_joint.nd (x_op (op_add.or op_cat) prim_addIL (de_var 7) (x_call (ok__law_of T) (hr.mono (by decide)) tk0 T.m__law_of T.t__law_of.kp T.b__law_of (a_cons (de_var 0) (a_cons (x_lst (a_cons x_int (a_cons x_int (a_cons x_int (a_cons x_int (a_cons (x_un un_neg prim_neg x_int) a_nil)))))) a_nil)) (l_cons (l_cons l_nil))))) (dss_one (ds_par (i := 6) (j := 5) rfl sc__law_joint.nd rfl rfl (by decide) rfl rfl (a_cons (x_tup (a_cons (de_var 7) (a_cons (x_op op_mulX prim_mul (de_var 4) (de_var 7)) a_nil))) (a_cons (x_tup (a_cons (de_var 8) (a_cons (x_op op_mulX prim_mul (de_var 4) (de_var 8)) a_nil))) a_nil)))))) (dss_cons (ds_set (i := 9) sc__law_joint.nd (x_op (op_add.or op_cat) prim_addIL (x_op op_mulX prim_mul x_int (x_op op_pow prim_pow x_int x_int)) x_int)) (dss_cons (ds_set (i := 6) sc__law_joint.nd (x_tup (a_cons (x_op op_sub prim_sub (x_call (ok__law_take T) (hr.mono (by decide)) tk0 T.m__law_take T.t__law_take.kp T.b__law_take (a_cons (de_var 0) (a_cons (de_var 9) a_nil)) (l_cons (l_cons l_nil))) (x_op op_pow prim_pow x_int x_int)) (a_cons (x_op op_sub prim_sub (x_call (ok__law_take T) (hr.mono (by decide)) tk0 T.m__law_take T.t__law_take.kp T.b__law_take (a_cons (de_var 0) (a_cons (de_var 9) a_nil)) (l_cons (l_cons l_nil))) (x_op op_pow prim_pow x_int x_int)) a_nil)))) (dss_one (ds_set (i := 5) sc__law_joint.nd (x_tup (a_cons (x_op op_sub prim_sub (x_call (ok__law_take T) (hr.mono (by decide)) tk0 T.m__law_take T.t__law_take.kp T.b__law_take (a_cons (de_var 0) (a_cons (de_var 9) a_nil)) (l_cons (l_cons l_nil))) (x_op op_pow prim_pow x_int x_int)) (a_cons (x_op op_sub prim_sub (x_call (ok__law_take T) (hr.mono (by decide)) tk0 T.m__law_take T.t__law_take.kp T.b__law_take (a_cons (de_var 0) (a_cons (de_var 9) a_nil)) (l_cons (l_cons l_nil))) (x_op op_pow prim_pow x_int x_int)) a_nil)))))))))) (dss_cons (z_if (q_cmp (op_eqA rfl hr.units) prim_eq (de_var 6) (de_var 5)) (dss_one (ds_set (i := 5) sc__law_joint.nd (x_tup (a_cons (x_ix rfl (de_var 5) x_int) (a_cons (x_ifExp (q_cmp op_gt prim_gt (x_ix rfl (de_var 5) x_int) x_int) (x_op op_sub prim_sub (x_ix rfl (de_var 5) x_int) x_int) (x_op (op_add.or op_cat) prim_addIL (x_ix rfl (de_var 5) x_int) x_int)) a_nil))))) z_nil) (dss_one (z_ret (x_tup (a_cons (de_var 6) (a_cons (de_var 5) a_nil))))))))⟩

def b__law_joints_0 : MS := (sasg (kCall tupD (aCons (kCall m__law_of (aCons (mvar 0) (aCons (kCall lstD (aCons (kC (.int 0)) (aCons (kC (.int 0)) (aCons (kC (.int 0)) (aCons (kC (.int 0)) (aCons (kC (.int 1)) (aCons (kC (.int 1)) (aCons (kC (.int 2)) (aCons (kC (.int 3)) aNil))))))))) aNil))) (aCons (kCall m__law_of (aCons (mvar 0) (aCons (kCall lstD (aCons (kC (.int 0)) (aCons (kC (.int 1)) (aCons (kUn negI (kC (.int 2))) aNil)))) aNil))) aNil))) (gtm 2 (gcn (gnm 2) (gcn (gnm 3) gnl))))
def b__law_joints_1 : MS := (sasg (kCall tupD (aCons (kCall m__law_of (aCons (mvar 0) (aCons (kCall lstD (aCons (mvar 1) (aCons (mvar 1) (aCons (mvar 1) (aCons (mvar 1) (aCons (kOp subI (mvar 1) (kC (.int 1))) (aCons (kOp subI (mvar 1) (kC (.int 1))) (aCons (kC (.int 1)) aNil)))))))) aNil))) (aCons (kCall m__law_of (aCons (mvar 0) (aCons (kCall lstD (aCons (kC (.int 0)) (aCons (kC (.int 2)) (aCons (kC (.int 4)) (aCons (kC (.int 6)) (aCons (kC (.int 8)) aNil)))))) aNil))) aNil))) (gtm 2 (gcn (gnm 4) (gcn (gnm 5) gnl))))
def b__law_joints_2 : MS := (zRet (kLc (iR1 (aCons (kOp addIL (mvar 4) (kC (.int 1))) aNil)) (gnm 6) (fun _ => mret true) (kCall m__law_joint (aCons (mvar 0) (aCons (kOp mulI (kC (.int 8)) (mvar 6)) (aCons (kIf (kB (kOp (inA false) (mvar 6) (kCall tupD (aCons (kC (.int 0)) (aCons (mvar 4) aNil))))) (kC (.int 0)) (mvar 5)) (aCons (mvar 2) (aCons (mvar 3) aNil)))))) [6]))
def b__law_joints : MS := (sseq b__law_joints_0 (sseq b__law_joints_1 b__law_joints_2))
def m__law_joints : List D → M D := mdef 7 b__law_joints
theorem ok__law_joints (T : Txt K mg a) : FnOk P w K mg base (L2.CX P w) 4 a.f__law_joints a.d__law_joints ["_law_bag_here", "_law_most"] (spM (gt a) 2 m__law_joints) :=
  ok_fd T.t__law_joints sc__law_joints rfl fun cdv A outer s H E hr => by
    have tk0 := takes_of (X := (cxOf (L2.CX P w) P w K mg base ["_law_bag_here", "_law_most", "_law_kind", "_law_slope", "_law_last", "_law_rise", "_law_k"] "_law_joints" (defScope s__law_joints) a.f__law_joints cdv A outer s H E)) (E := E) rfl rfl rfl rfl
    have po0 : PassesOwn (model P w) (cxOf (L2.CX P w) P w K mg base ["_law_bag_here", "_law_most", "_law_kind", "_law_slope", "_law_last", "_law_rise", "_law_k"] "_law_joints" (defScope s__law_joints) a.f__law_joints cdv A outer s H E).A (cxOf (L2.CX P w) P w K mg base ["_law_bag_here", "_law_most", "_law_kind", "_law_slope", "_law_last", "_law_rise", "_law_k"] "_law_joints" (defScope s__law_joints) a.f__law_joints cdv A outer s H E).env (cxOf (L2.CX P w) P w K mg base ["_law_bag_here", "_law_most", "_law_kind", "_law_slope", "_law_last", "_law_rise", "_law_k"] "_law_joints" (defScope s__law_joints) a.f__law_joints cdv A outer s H E).xe := passes_of rfl
    exact ⟨_, (dss_cons (ds_asg (vs := [2, 3]) (x_tup (a_cons (x_call (ok__law_of T) (hr.mono (by decide)) tk0 T.m__law_of T.t__law_of.kp T.b__law_of (a_cons (de_var 0) (a_cons (x_lst (a_cons x_int (a_cons x_int (a_cons x_int (a_cons x_int (a_cons x_int (a_cons x_int (a_cons x_int (a_cons x_int a_nil))))))))) a_nil)) (l_cons (l_cons l_nil))) (a_cons (x_call (ok__law_of T) (hr.mono (by decide)) tk0 T.m__law_of T.t__law_of.kp T.b__law_of (a_cons (de_var 0) (a_cons (x_lst (a_cons x_int (a_cons x_int (a_cons (x_un un_neg prim_neg x_int) a_nil)))) a_nil)) (l_cons (l_cons l_nil))) a_nil))) (g_tup rfl rfl (g_cons (dg_name (i := 2) (by decide) sc__law_joints.nd) (g_cons (dg_name (i := 3) (by decide) sc__law_joints.nd) g_nil)))) (dss_cons (ds_asg (vs := [4, 5]) (x_tup (a_cons (x_call (ok__law_of T) (hr.mono (by decide)) tk0 T.m__law_of T.t__law_of.kp T.b__law_of (a_cons (de_var 0) (a_cons (x_lst (a_cons (de_var 1) (a_cons (de_var 1) (a_cons (de_var 1) (a_cons (de_var 1) (a_cons (x_op op_sub prim_sub (de_var 1) x_int) (a_cons (x_op op_sub prim_sub (de_var 1) x_int) (a_cons x_int a_nil)))))))) a_nil)) (l_cons (l_cons l_nil))) (a_cons (x_call (ok__law_of T) (hr.mono (by decide)) tk0 T.m__law_of T.t__law_of.kp T.b__law_of (a_cons (de_var 0) (a_cons (x_lst (a_cons x_int (a_cons x_int (a_cons x_int (a_cons x_int (a_cons x_int a_nil)))))) a_nil)) (l_cons (l_cons l_nil))) a_nil))) (g_tup rfl rfl (g_cons (dg_name (i := 4) (by decide) sc__law_joints.nd) (g_cons (dg_name (i := 5) (by decide) sc__law_joints.nd) g_nil)))) (dss_one (z_ret (x_lc [("_law_k", 6)] rfl sc__law_joints.nd (i_range1 T.n_range (a_cons (x_op (op_add.or op_cat) prim_addIL (de_var 4) x_int) a_nil)) (blkOk_by (N := ["_law_bag_here", "_law_most", "_law_kind", "_law_slope", "_law_last", "_law_rise", "_law_k"]) (sc := defScope s__law_joints) (by decide +kernel)) (fun _ _ _ _ _ => (dg_name (i := 6) (by decide) sc__law_joints.nd)) (fun _ _ _ _ _ => pts_nil) run_yes (fun _ _ _ _ _ => (x_call (ok__law_joint T) (hr.mono (by decide)) takes0 T.m__law_joint T.t__law_joint.kp T.b__law_joint (a_cons (de_var 0) (a_cons (x_op op_mulX prim_mul x_int (de_var 6)) (a_cons (x_ifExp (q_cmp (op_inA rfl (by have z := room_v hr; exact z)) prim_inA (de_var 6) (x_tup (a_cons x_int (a_cons (de_var 4) a_nil)))) x_int (de_var 5)) (a_cons (de_var 2) (a_cons (de_var 3) a_nil))))) (l_cons (l_cons (l_cons (l_cons (l_cons l_nil))))))))))))⟩

def b__law_numbers_0 : MS := (sasg (kCall m__law_of (aCons (mvar 0) (aCons (kCall lstD (aCons (kC (.int 1)) (aCons (kC (.int 1)) (aCons (kC (.int 1)) (aCons (kOp powI (kC (.int 10)) (kC (.int 29))) aNil))))) aNil))) (gnm 2))
def b__law_numbers_1 : MS := (zRet (kLc (iR1 (aCons (mvar 1) aNil)) (gnm 3) (fun _ => mret true) (kOp mulI (mvar 2) (kCall m__law_of (aCons (mvar 0) (aCons (kCall lstD (aCons (kC (.int 0)) (aCons (kC (.int 0)) (aCons (kC (.int 0)) (aCons (kC (.int 1)) (aCons (kC (.int 2)) (aCons (kC (.int 3)) (aCons (kCall m__law_take (aCons (mvar 0) (aCons (kC (.int 10)) aNil))) aNil)))))))) aNil)))) [3]))
def b__law_numbers : MS := (sseq b__law_numbers_0 b__law_numbers_1)
def m__law_numbers : List D → M D := mdef 4 b__law_numbers
theorem ok__law_numbers (T : Txt K mg a) : FnOk P w K mg base (L2.CX P w) 3 a.f__law_numbers a.d__law_numbers ["_law_bag_here", "_law_count"] (spM (gt a) 2 m__law_numbers) :=
  ok_fd T.t__law_numbers sc__law_numbers rfl fun cdv A outer s H E hr => by
    have tk0 := takes_of (X := (cxOf (L2.CX P w) P w K mg base ["_law_bag_here", "_law_count", "_law_big", "_law_k"] "_law_numbers" (defScope s__law_numbers) a.f__law_numbers cdv A outer s H E)) (E := E) rfl rfl rfl rfl
    have po0 : PassesOwn (model P w) (cxOf (L2.CX P w) P w K mg base ["_law_bag_here", "_law_count", "_law_big", "_law_k"] "_law_numbers" (defScope s__law_numbers) a.f__law_numbers cdv A outer s H E).A (cxOf (L2.CX P w) P w K mg base ["_law_bag_here", "_law_count", "_law_big", "_law_k"] "_law_numbers" (defScope s__law_numbers) a.f__law_numbers cdv A outer s H E).env (cxOf (L2.CX P w) P w K mg base ["_law_bag_here", "_law_count", "_law_big", "_law_k"] "_law_numbers" (defScope s__law_numbers) a.f__law_numbers cdv A outer s H E).xe := passes_of rfl
    exact ⟨_, (dss_cons (ds_set (i := 2) sc__law_numbers.nd (x_call (ok__law_of T) (hr.mono (by decide)) tk0 T.m__law_of T.t__law_of.kp T.b__law_of (a_cons (de_var 0) (a_cons (x_lst (a_cons x_int (a_cons x_int (a_cons x_int (a_cons (x_op op_pow prim_pow x_int x_int) a_nil))))) a_nil)) (l_cons (l_cons l_nil)))) (dss_one (z_ret (x_lc [("_law_k", 3)] rfl sc__law_numbers.nd (i_range1 T.n_range (a_cons (de_var 1) a_nil)) (blkOk_by (N := ["_law_bag_here", "_law_count", "_law_big", "_law_k"]) (sc := defScope s__law_numbers) (by decide +kernel)) (fun _ _ _ _ _ => (dg_name (i := 3) (by decide) sc__law_numbers.nd)) (fun _ _ _ _ _ => pts_nil) run_yes (fun _ _ _ _ _ => (x_op op_mulX prim_mul (de_var 2) (x_call (ok__law_of T) (hr.mono (by decide)) takes0 T.m__law_of T.t__law_of.kp T.b__law_of (a_cons (de_var 0) (a_cons (x_lst (a_cons x_int (a_cons x_int (a_cons x_int (a_cons x_int (a_cons x_int (a_cons x_int (a_cons (x_call (ok__law_take T) (hr.mono (by decide)) takes0 T.m__law_take T.t__law_take.kp T.b__law_take (a_cons (de_var 0) (a_cons x_int a_nil)) (l_cons (l_cons l_nil))) a_nil)))))))) a_nil)) (l_cons (l_cons l_nil)))))))))⟩

def b_is_row : MS := (zRet (kAndV (kCall (isiT ans) (aCons (mvar 0) (aCons (kCall tupD (aCons (kC (.ty "list")) (aCons (kC (.ty "tuple")) aNil))) aNil))) (kCh leI leI (mvar 1) (kCall lenD (aCons (mvar 0) aNil)) (mvar 2))))
def m_is_row : List D → M D := mdef 3 b_is_row
theorem ok_is_row (T : Txt K mg a) : FnOk P w K mg base (L2.CX P w) 1 a.f_is_row a.d_is_row ["thing", "least", "most"] (spM (gt a) 3 m_is_row) :=
  ok_fd T.t_is_row sc_is_row rfl fun cdv A outer s H E hr => by
    have tk0 := takes_of (X := (cxOf (L2.CX P w) P w K mg base ["thing", "least", "most"] "is_row" (defScope s_is_row) a.f_is_row cdv A outer s H E)) (E := E) rfl rfl rfl rfl
    have po0 : PassesOwn (model P w) (cxOf (L2.CX P w) P w K mg base ["thing", "least", "most"] "is_row" (defScope s_is_row) a.f_is_row cdv A outer s H E).A (cxOf (L2.CX P w) P w K mg base ["thing", "least", "most"] "is_row" (defScope s_is_row) a.f_is_row cdv A outer s H E).env (cxOf (L2.CX P w) P w K mg base ["thing", "least", "most"] "is_row" (defScope s_is_row) a.f_is_row cdv A outer s H E).xe := passes_of rfl
    exact ⟨_, (dss_one (z_ret (x_and (x_callB (cr_isiT rfl) (prim_isiT (isa T)) T.n_isinstance (by decide +kernel) (a_cons (de_var 0) (a_cons (x_tup (a_cons (x_ty (n := "list") T.n_list (by decide +kernel)) (a_cons (x_ty (n := "tuple") T.n_tuple (by decide +kernel)) a_nil))) a_nil))) (de_one (x_chain op_le op_le prim_le prim_le (de_var 1) (x_callB (cr_len rfl) (prim_len) T.n_len (by decide +kernel) (a_cons (de_var 0) a_nil)) (de_var 2))))))⟩

def b_is_number : MS := (zRet (kAndV (kCall (isiA ans) (aCons (mvar 0) (aCons (kC (.ty "int")) aNil))) (kNotV (kCall (isiA ans) (aCons (mvar 0) (aCons (kC (.ty "bool")) aNil))))))
def m_is_number : List D → M D := mdef 1 b_is_number
theorem ok_is_number (T : Txt K mg a) : FnOk P w K mg base (L2.CX P w) 1 a.f_is_number a.d_is_number ["thing"] (spM (gt a) 1 m_is_number) :=
  ok_fd T.t_is_number sc_is_number rfl fun cdv A outer s H E hr => by
    have tk0 := takes_of (X := (cxOf (L2.CX P w) P w K mg base ["thing"] "is_number" (defScope s_is_number) a.f_is_number cdv A outer s H E)) (E := E) rfl rfl rfl rfl
    have po0 : PassesOwn (model P w) (cxOf (L2.CX P w) P w K mg base ["thing"] "is_number" (defScope s_is_number) a.f_is_number cdv A outer s H E).A (cxOf (L2.CX P w) P w K mg base ["thing"] "is_number" (defScope s_is_number) a.f_is_number cdv A outer s H E).env (cxOf (L2.CX P w) P w K mg base ["thing"] "is_number" (defScope s_is_number) a.f_is_number cdv A outer s H E).xe := passes_of rfl
    exact ⟨_, (dss_one (z_ret (x_and (x_callB (cr_isi rfl) (prim_isiA (isa T)) T.n_isinstance (by decide +kernel) (a_cons (de_var 0) (a_cons (x_ty (n := "int") T.n_int (by decide +kernel)) a_nil))) (de_one (x_not (x_callB (cr_isi rfl) (prim_isiA (isa T)) T.n_isinstance (by decide +kernel) (a_cons (de_var 0) (a_cons (x_ty (n := "bool") T.n_bool (by decide +kernel)) a_nil))))))))⟩

def b_is_count : MS := (zRet (kAndV (kCall m_is_number (aCons (mvar 0) aNil)) (kOp geI (mvar 0) (kC (.int 0)))))
def m_is_count : List D → M D := mdef 1 b_is_count
theorem ok_is_count (T : Txt K mg a) : FnOk P w K mg base (L2.CX P w) 2 a.f_is_count a.d_is_count ["thing"] (spM (gt a) 1 m_is_count) :=
  ok_fd T.t_is_count sc_is_count rfl fun cdv A outer s H E hr => by
    have tk0 := takes_of (X := (cxOf (L2.CX P w) P w K mg base ["thing"] "is_count" (defScope s_is_count) a.f_is_count cdv A outer s H E)) (E := E) rfl rfl rfl rfl
    have po0 : PassesOwn (model P w) (cxOf (L2.CX P w) P w K mg base ["thing"] "is_count" (defScope s_is_count) a.f_is_count cdv A outer s H E).A (cxOf (L2.CX P w) P w K mg base ["thing"] "is_count" (defScope s_is_count) a.f_is_count cdv A outer s H E).env (cxOf (L2.CX P w) P w K mg base ["thing"] "is_count" (defScope s_is_count) a.f_is_count cdv A outer s H E).xe := passes_of rfl
    exact ⟨_, (dss_one (z_ret (x_and (x_call (ok_is_number T) (hr.mono (by decide)) tk0 T.m_is_number T.t_is_number.kp T.b_is_number (a_cons (de_var 0) a_nil) (l_cons l_nil)) (de_one (x_cmp op_ge prim_ge (de_var 0) x_int)))))⟩

def b_Weights___init___0 : MS := (zIf (kOr (kNot (kB (kCall m_is_row (aCons (mvar 1) (aCons (kC (.int 4)) (aCons (kC (.int 18)) aNil)))))) (kB (kOp neA (kOp fmdI (kCall lenD (aCons (mvar 1) aNil)) (kC (.int 2))) (kC (.int 0))))) (zRaiseN 9 ["what"] (aCons (kC (.str "count")) aNil)) zNx)
def b_Weights___init___1 : MS := (zIf (kNot (kB (kCall allD (aCons (kLc (iS (mvar 1)) (gnm 2) (fun _ => mret true) (kCall m_is_count (aCons (mvar 2) aNil)) [2]) aNil)))) (zRaiseN 9 ["what"] (aCons (kC (.str "number")) aNil)) zNx)
def b_Weights___init___2 : MS := (objPut 14 "numbers" (mvar 0) (kCall tupleD (aCons (mvar 1) aNil)))
def b_Weights___init__ : MS := (sseq b_Weights___init___0 (sseq b_Weights___init___1 b_Weights___init___2))
def m_Weights___init__ : List D → M D := mdef 3 b_Weights___init__
theorem ok_Weights___init__ (T : Txt K mg a) : FnOk P w K mg base (L2.CX P w) 3 a.f_Weights___init__ a.d_Weights___init__ ["self", "numbers"] (spM (gt a) 2 m_Weights___init__) :=
  ok_fd T.t_Weights___init__ sc_Weights___init__ rfl fun cdv A outer s H E hr => by
    have tk0 := takes_of (X := (cxOf (L2.CX P w) P w K mg base ["self", "numbers", "number"] "Weights.__init__" (defScope s_Weights___init__) a.f_Weights___init__ cdv A outer s H E)) (E := E) rfl rfl rfl rfl
    have po0 : PassesOwn (model P w) (cxOf (L2.CX P w) P w K mg base ["self", "numbers", "number"] "Weights.__init__" (defScope s_Weights___init__) a.f_Weights___init__ cdv A outer s H E).A (cxOf (L2.CX P w) P w K mg base ["self", "numbers", "number"] "Weights.__init__" (defScope s_Weights___init__) a.f_Weights___init__ cdv A outer s H E).env (cxOf (L2.CX P w) P w K mg base ["self", "numbers", "number"] "Weights.__init__" (defScope s_Weights___init__) a.f_Weights___init__ cdv A outer s H E).xe := passes_of rfl
    exact ⟨_, (dss_cons (z_if (dt_w (w_or (q_not (q_val (x_call (ok_is_row T) (hr.mono (by decide)) tk0 T.m_is_row T.t_is_row.kp T.b_is_row (a_cons (de_var 1) (a_cons (x_gint T.gi_LEAST_CORNERS) (a_cons (x_gint T.gi_MOST_CORNERS) a_nil))) (l_cons (l_cons (l_cons l_nil)))))) (w_or1 (q_cmp (op_neA rfl hr.units) prim_ne (x_op op_modN prim_fmd (x_callB (cr_len rfl) (prim_len) T.n_len (by decide +kernel) (a_cons (de_var 1) a_nil)) x_int) x_int)))) (dss_one (z_raise1 (cn := 9) rfl tk0 T.e_BadWeights (oke_BadWeights T) (hr.mono (by decide)) (a_cons x_str a_nil) (l_cons l_nil))) z_nil) (dss_cons (z_if (q_not (q_val (x_callB (cr_all' rfl rfl) prim_all T.n_all (by decide +kernel) (a_cons (x_lc [("number", 2)] rfl sc_Weights___init__.nd (i_seq rfl (de_var 1)) (blkOk_by (N := ["self", "numbers", "number"]) (sc := defScope s_Weights___init__) (by decide +kernel)) (fun _ _ _ _ _ => (dg_name (i := 2) (by decide) sc_Weights___init__.nd)) (fun _ _ _ _ _ => pts_nil) run_yes (fun _ _ _ _ _ => (x_call (ok_is_count T) (hr.mono (by decide)) takes0 T.m_is_count T.t_is_count.kp T.b_is_count (a_cons (de_var 2) a_nil) (l_cons l_nil)))) a_nil)))) (dss_one (z_raise1 (cn := 9) rfl tk0 T.e_BadWeights (oke_BadWeights T) (hr.mono (by decide)) (a_cons x_str a_nil) (l_cons l_nil))) z_nil) (dss_one (ds_objPut 14 (fk_numbers T 14 rfl).1 (fk_numbers T 14 rfl).2 (de_var 0) (x_callTy (cr_tuple rfl) prim_tuple T.n_tuple (by decide +kernel) (a_cons (de_var 1) a_nil))))))⟩

def b_is_whole : MS := (zRet (kAndV (kCall m_is_number (aCons (mvar 0) aNil)) (kCh leI leI (mvar 1) (mvar 0) (mvar 2))))
def m_is_whole : List D → M D := mdef 3 b_is_whole
theorem ok_is_whole (T : Txt K mg a) : FnOk P w K mg base (L2.CX P w) 2 a.f_is_whole a.d_is_whole ["thing", "low", "high"] (spM (gt a) 3 m_is_whole) :=
  ok_fd T.t_is_whole sc_is_whole rfl fun cdv A outer s H E hr => by
    have tk0 := takes_of (X := (cxOf (L2.CX P w) P w K mg base ["thing", "low", "high"] "is_whole" (defScope s_is_whole) a.f_is_whole cdv A outer s H E)) (E := E) rfl rfl rfl rfl
    have po0 : PassesOwn (model P w) (cxOf (L2.CX P w) P w K mg base ["thing", "low", "high"] "is_whole" (defScope s_is_whole) a.f_is_whole cdv A outer s H E).A (cxOf (L2.CX P w) P w K mg base ["thing", "low", "high"] "is_whole" (defScope s_is_whole) a.f_is_whole cdv A outer s H E).env (cxOf (L2.CX P w) P w K mg base ["thing", "low", "high"] "is_whole" (defScope s_is_whole) a.f_is_whole cdv A outer s H E).xe := passes_of rfl
    exact ⟨_, (dss_one (z_ret (x_and (x_call (ok_is_number T) (hr.mono (by decide)) tk0 T.m_is_number T.t_is_number.kp T.b_is_number (a_cons (de_var 0) a_nil) (l_cons l_nil)) (de_one (x_chain op_le op_le prim_le prim_le (de_var 1) (de_var 0) (de_var 2))))))⟩

def b_is_point : MS := (zRet (kAndV (kCall m_is_row (aCons (mvar 0) (aCons (kC (.int 2)) (aCons (kC (.int 2)) aNil)))) (kAndV (kCall m_is_whole (aCons (kOp itemD (mvar 0) (kC (.int 0))) (aCons (kUn negI (kC (.int 1000000))) (aCons (kC (.int 1000000)) aNil)))) (kCall m_is_whole (aCons (kOp itemD (mvar 0) (kC (.int 1))) (aCons (kUn negI (kC (.int 1000000))) (aCons (kC (.int 1000000)) aNil)))))))
def m_is_point : List D → M D := mdef 1 b_is_point
theorem ok_is_point (T : Txt K mg a) : FnOk P w K mg base (L2.CX P w) 3 a.f_is_point a.d_is_point ["thing"] (spM (gt a) 1 m_is_point) :=
  ok_fd T.t_is_point sc_is_point rfl fun cdv A outer s H E hr => by
    have tk0 := takes_of (X := (cxOf (L2.CX P w) P w K mg base ["thing"] "is_point" (defScope s_is_point) a.f_is_point cdv A outer s H E)) (E := E) rfl rfl rfl rfl
    have po0 : PassesOwn (model P w) (cxOf (L2.CX P w) P w K mg base ["thing"] "is_point" (defScope s_is_point) a.f_is_point cdv A outer s H E).A (cxOf (L2.CX P w) P w K mg base ["thing"] "is_point" (defScope s_is_point) a.f_is_point cdv A outer s H E).env (cxOf (L2.CX P w) P w K mg base ["thing"] "is_point" (defScope s_is_point) a.f_is_point cdv A outer s H E).xe := passes_of rfl
    exact ⟨_, (dss_one (z_ret (x_and (x_call (ok_is_row T) (hr.mono (by decide)) tk0 T.m_is_row T.t_is_row.kp T.b_is_row (a_cons (de_var 0) (a_cons x_int (a_cons x_int a_nil))) (l_cons (l_cons (l_cons l_nil)))) (x_and (x_call (ok_is_whole T) (hr.mono (by decide)) tk0 T.m_is_whole T.t_is_whole.kp T.b_is_whole (a_cons (x_ix rfl (de_var 0) x_int) (a_cons (x_un un_neg prim_neg (x_gint T.gi_FARTHEST)) (a_cons (x_gint T.gi_FARTHEST) a_nil))) (l_cons (l_cons (l_cons l_nil)))) (de_one (x_call (ok_is_whole T) (hr.mono (by decide)) tk0 T.m_is_whole T.t_is_whole.kp T.b_is_whole (a_cons (x_ix rfl (de_var 0) x_int) (a_cons (x_un un_neg prim_neg (x_gint T.gi_FARTHEST)) (a_cons (x_gint T.gi_FARTHEST) a_nil))) (l_cons (l_cons (l_cons l_nil)))))))))⟩

def b__checked_joint_0 : MS := (zIf (kNot (kB (kCall m_is_row (aCons (mvar 1) (aCons (kC (.int 2)) (aCons (kC (.int 2)) aNil)))))) (zRaiseN 6 ["what", "joint"] (aCons (kC (.str "joint")) (aCons (mvar 0) aNil))) zNx)
def b__checked_joint_1 : MS := (zIf (kOr (kNot (kB (kCall m_is_point (aCons (kOp itemD (mvar 1) (kC (.int 0))) aNil)))) (kNot (kB (kCall m_is_point (aCons (kOp itemD (mvar 1) (kC (.int 1))) aNil))))) (zRaiseN 6 ["what", "joint"] (aCons (kC (.str "corner")) (aCons (mvar 0) aNil))) zNx)
def b__checked_joint_2 : MS := (spar 2 3 (aCons (kCall tupleD (aCons (kOp itemD (mvar 1) (kC (.int 0))) aNil)) (aCons (kCall tupleD (aCons (kOp itemD (mvar 1) (kC (.int 1))) aNil)) aNil)))
def b__checked_joint_3 : MS := (zIf (kB (kOp eqA (mvar 2) (mvar 3))) (zRaiseN 6 ["what", "joint"] (aCons (kC (.str "same")) (aCons (mvar 0) aNil))) zNx)
def b__checked_joint_4 : MS := (zRet (kCall tupD (aCons (mvar 2) (aCons (mvar 3) aNil))))
def b__checked_joint : MS := (sseq b__checked_joint_0 (sseq b__checked_joint_1 (sseq b__checked_joint_2 (sseq b__checked_joint_3 b__checked_joint_4))))
def m__checked_joint : List D → M D := mdef 4 b__checked_joint
theorem ok__checked_joint (T : Txt K mg a) : FnOk P w K mg base (L2.CX P w) 4 a.f__checked_joint a.d__checked_joint ["index", "joint"] (spM (gt a) 2 m__checked_joint) :=
  ok_fd T.t__checked_joint sc__checked_joint rfl fun cdv A outer s H E hr => by
    have tk0 := takes_of (X := (cxOf (L2.CX P w) P w K mg base ["index", "joint", "inner", "outer"] "_checked_joint" (defScope s__checked_joint) a.f__checked_joint cdv A outer s H E)) (E := E) rfl rfl rfl rfl
    have po0 : PassesOwn (model P w) (cxOf (L2.CX P w) P w K mg base ["index", "joint", "inner", "outer"] "_checked_joint" (defScope s__checked_joint) a.f__checked_joint cdv A outer s H E).A (cxOf (L2.CX P w) P w K mg base ["index", "joint", "inner", "outer"] "_checked_joint" (defScope s__checked_joint) a.f__checked_joint cdv A outer s H E).env (cxOf (L2.CX P w) P w K mg base ["index", "joint", "inner", "outer"] "_checked_joint" (defScope s__checked_joint) a.f__checked_joint cdv A outer s H E).xe := passes_of rfl
    exact ⟨_, (dss_cons (z_if (q_not (q_val (x_call (ok_is_row T) (hr.mono (by decide)) tk0 T.m_is_row T.t_is_row.kp T.b_is_row (a_cons (de_var 1) (a_cons x_int (a_cons x_int a_nil))) (l_cons (l_cons (l_cons l_nil)))))) (dss_one (z_raise2 (cn := 6) rfl tk0 T.e_BadBridge (oke_BadBridge T) (hr.mono (by decide)) (a_cons x_str (a_cons (de_var 0) a_nil)) (l_cons (l_cons l_nil)) (hff := by decide))) z_nil) (dss_cons (z_if (dt_w (w_or (q_not (q_val (x_call (ok_is_point T) (hr.mono (by decide)) tk0 T.m_is_point T.t_is_point.kp T.b_is_point (a_cons (x_ix rfl (de_var 1) x_int) a_nil) (l_cons l_nil)))) (w_or1 (q_not (q_val (x_call (ok_is_point T) (hr.mono (by decide)) tk0 T.m_is_point T.t_is_point.kp T.b_is_point (a_cons (x_ix rfl (de_var 1) x_int) a_nil) (l_cons l_nil))))))) (dss_one (z_raise2 (cn := 6) rfl tk0 T.e_BadBridge (oke_BadBridge T) (hr.mono (by decide)) (a_cons x_str (a_cons (de_var 0) a_nil)) (l_cons (l_cons l_nil)) (hff := by decide))) z_nil) (dss_cons (ds_par (i := 2) (j := 3) rfl sc__checked_joint.nd rfl rfl (by decide) rfl rfl (a_cons (x_callTy (cr_tuple rfl) prim_tuple T.n_tuple (by decide +kernel) (a_cons (x_ix rfl (de_var 1) x_int) a_nil)) (a_cons (x_callTy (cr_tuple rfl) prim_tuple T.n_tuple (by decide +kernel) (a_cons (x_ix rfl (de_var 1) x_int) a_nil)) a_nil))) (dss_cons (z_if (q_cmp (op_eqA rfl hr.units) prim_eq (de_var 2) (de_var 3)) (dss_one (z_raise2 (cn := 6) rfl tk0 T.e_BadBridge (oke_BadBridge T) (hr.mono (by decide)) (a_cons x_str (a_cons (de_var 0) a_nil)) (l_cons (l_cons l_nil)) (hff := by decide))) z_nil) (dss_one (z_ret (x_tup (a_cons (de_var 2) (a_cons (de_var 3) a_nil)))))))))⟩

def b__checked_joints_0 : MS := (zIf (kNot (kB (kCall m_is_row (aCons (mvar 0) (aCons (kC (.int 2)) (aCons (kOp addIL (kC (.int 8)) (kC (.int 1))) aNil)))))) (zRaiseN 6 ["what", "joint"] (aCons (kC (.str "joints")) (aCons (kC .non) aNil))) zNx)
def b__checked_joints_1 : MS := (zRet (kCall tupleD (aCons (kLc (iN (aCons (mvar 0) aNil)) (gtm 2 (gcn (gnm 1) (gcn (gnm 2) gnl))) (fun _ => mret true) (kCall m__checked_joint (aCons (mvar 1) (aCons (mvar 2) aNil))) [1, 2]) aNil)))
def b__checked_joints : MS := (sseq b__checked_joints_0 b__checked_joints_1)
def m__checked_joints : List D → M D := mdef 3 b__checked_joints
theorem ok__checked_joints (T : Txt K mg a) : FnOk P w K mg base (L2.CX P w) 5 a.f__checked_joints a.d__checked_joints ["joints"] (spM (gt a) 1 m__checked_joints) :=
  ok_fd T.t__checked_joints sc__checked_joints rfl fun cdv A outer s H E hr => by
    have tk0 := takes_of (X := (cxOf (L2.CX P w) P w K mg base ["joints", "index", "joint"] "_checked_joints" (defScope s__checked_joints) a.f__checked_joints cdv A outer s H E)) (E := E) rfl rfl rfl rfl
    have po0 : PassesOwn (model P w) (cxOf (L2.CX P w) P w K mg base ["joints", "index", "joint"] "_checked_joints" (defScope s__checked_joints) a.f__checked_joints cdv A outer s H E).A (cxOf (L2.CX P w) P w K mg base ["joints", "index", "joint"] "_checked_joints" (defScope s__checked_joints) a.f__checked_joints cdv A outer s H E).env (cxOf (L2.CX P w) P w K mg base ["joints", "index", "joint"] "_checked_joints" (defScope s__checked_joints) a.f__checked_joints cdv A outer s H E).xe := passes_of rfl
    exact ⟨_, (dss_cons (z_if (q_not (q_val (x_call (ok_is_row T) (hr.mono (by decide)) tk0 T.m_is_row T.t_is_row.kp T.b_is_row (a_cons (de_var 0) (a_cons x_int (a_cons (x_op (op_add.or op_cat) prim_addIL (x_gint T.gi_MOST_STONES) x_int) a_nil))) (l_cons (l_cons (l_cons l_nil)))))) (dss_one (z_raise2 (cn := 6) rfl tk0 T.e_BadBridge (oke_BadBridge T) (hr.mono (by decide)) (a_cons x_str (a_cons x_non a_nil)) (l_cons (l_cons l_nil)) (hff := by decide))) z_nil) (dss_one (z_ret (x_callTy (cr_tuple rfl) prim_tuple T.n_tuple (by decide +kernel) (a_cons (x_lc [("index", 1), ("joint", 2)] rfl sc__checked_joints.nd (i_enum rfl T.n_enumerate (a_cons (de_var 0) a_nil)) (blkOk_by (N := ["joints", "index", "joint"]) (sc := defScope s__checked_joints) (by decide +kernel)) (fun _ _ _ _ _ => (g_tup rfl rfl (g_cons (dg_name (i := 1) (by decide) sc__checked_joints.nd) (g_cons (dg_name (i := 2) (by decide) sc__checked_joints.nd) g_nil)))) (fun _ _ _ _ _ => pts_nil) run_yes (fun _ _ _ _ _ => (x_call (ok__checked_joint T) (hr.mono (by decide)) takes0 T.m__checked_joint T.t__checked_joint.kp T.b__checked_joint (a_cons (de_var 1) (a_cons (de_var 2) a_nil)) (l_cons (l_cons l_nil))))) a_nil)))))⟩

def b__check_stones : MS := (zIf (kNot (kB (kCall m_is_whole (aCons (mvar 0) (aCons (kC (.int 1)) (aCons (kC (.int 8)) aNil)))))) (zRaiseN 2 ["what"] (aCons (kC (.str "count")) aNil)) zNx)
def m__check_stones : List D → M D := mdef 1 b__check_stones
theorem ok__check_stones (T : Txt K mg a) : FnOk P w K mg base (L2.CX P w) 3 a.f__check_stones a.d__check_stones ["stones"] (spM (gt a) 1 m__check_stones) :=
  ok_fd T.t__check_stones sc__check_stones rfl fun cdv A outer s H E hr => by
    have tk0 := takes_of (X := (cxOf (L2.CX P w) P w K mg base ["stones"] "_check_stones" (defScope s__check_stones) a.f__check_stones cdv A outer s H E)) (E := E) rfl rfl rfl rfl
    have po0 : PassesOwn (model P w) (cxOf (L2.CX P w) P w K mg base ["stones"] "_check_stones" (defScope s__check_stones) a.f__check_stones cdv A outer s H E).A (cxOf (L2.CX P w) P w K mg base ["stones"] "_check_stones" (defScope s__check_stones) a.f__check_stones cdv A outer s H E).env (cxOf (L2.CX P w) P w K mg base ["stones"] "_check_stones" (defScope s__check_stones) a.f__check_stones cdv A outer s H E).xe := passes_of rfl
    exact ⟨_, (dss_one (z_if (q_not (q_val (x_call (ok_is_whole T) (hr.mono (by decide)) tk0 T.m_is_whole T.t_is_whole.kp T.b_is_whole (a_cons (de_var 0) (a_cons x_int (a_cons (x_gint T.gi_MOST_STONES) a_nil))) (l_cons (l_cons (l_cons l_nil)))))) (dss_one (z_raise1 (cn := 2) rfl tk0 T.e_BadLoad (oke_BadLoad T) (hr.mono (by decide)) (a_cons x_str a_nil) (l_cons l_nil))) z_nil))⟩

def b_Load___init___0 : MS := (zIf (kNot (kB (kCall m_is_row (aCons (mvar 1) (aCons (kC (.int 1)) (aCons (kC (.int 8)) aNil)))))) (zRaiseN 2 ["what"] (aCons (kC (.str "count")) aNil)) zNx)
def b_Load___init___1 : MS := (zIf (kNot (kB (kCall allD (aCons (kLc (iS (mvar 1)) (gnm 2) (fun _ => mret true) (kCall (isiA ans) (aCons (mvar 2) (aCons (kC (.cls 10)) aNil))) [2]) aNil)))) (zRaiseN 2 ["what"] (aCons (kC (.str "force")) aNil)) zNx)
def b_Load___init___2 : MS := (objPut 11 "forces" (mvar 0) (kCall tupleD (aCons (mvar 1) aNil)))
def b_Load___init__ : MS := (sseq b_Load___init___0 (sseq b_Load___init___1 b_Load___init___2))
def m_Load___init__ : List D → M D := mdef 3 b_Load___init__
theorem ok_Load___init__ (T : Txt K mg a) : FnOk P w K mg base (L2.CX P w) 3 a.f_Load___init__ a.d_Load___init__ ["self", "forces"] (spM (gt a) 2 m_Load___init__) :=
  ok_fd T.t_Load___init__ sc_Load___init__ rfl fun cdv A outer s H E hr => by
    have tk0 := takes_of (X := (cxOf (L2.CX P w) P w K mg base ["self", "forces", "force"] "Load.__init__" (defScope s_Load___init__) a.f_Load___init__ cdv A outer s H E)) (E := E) rfl rfl rfl rfl
    have po0 : PassesOwn (model P w) (cxOf (L2.CX P w) P w K mg base ["self", "forces", "force"] "Load.__init__" (defScope s_Load___init__) a.f_Load___init__ cdv A outer s H E).A (cxOf (L2.CX P w) P w K mg base ["self", "forces", "force"] "Load.__init__" (defScope s_Load___init__) a.f_Load___init__ cdv A outer s H E).env (cxOf (L2.CX P w) P w K mg base ["self", "forces", "force"] "Load.__init__" (defScope s_Load___init__) a.f_Load___init__ cdv A outer s H E).xe := passes_of rfl
    exact ⟨_, (dss_cons (z_if (q_not (q_val (x_call (ok_is_row T) (hr.mono (by decide)) tk0 T.m_is_row T.t_is_row.kp T.b_is_row (a_cons (de_var 1) (a_cons x_int (a_cons (x_gint T.gi_MOST_STONES) a_nil))) (l_cons (l_cons (l_cons l_nil)))))) (dss_one (z_raise1 (cn := 2) rfl tk0 T.e_BadLoad (oke_BadLoad T) (hr.mono (by decide)) (a_cons x_str a_nil) (l_cons l_nil))) z_nil) (dss_cons (z_if (q_not (q_val (x_callB (cr_all' rfl rfl) prim_all T.n_all (by decide +kernel) (a_cons (x_lc [("force", 2)] rfl sc_Load___init__.nd (i_seq rfl (de_var 1)) (blkOk_by (N := ["self", "forces", "force"]) (sc := defScope s_Load___init__) (by decide +kernel)) (fun _ _ _ _ _ => (dg_name (i := 2) (by decide) sc_Load___init__.nd)) (fun _ _ _ _ _ => pts_nil) run_yes (fun _ _ _ _ _ => (x_callB (cr_isi rfl) (prim_isiA (isa T)) T.n_isinstance (by decide +kernel) (a_cons (de_var 2) (a_cons (x_cls (n := 10) T.m_Force) a_nil))))) a_nil)))) (dss_one (z_raise1 (cn := 2) rfl tk0 T.e_BadLoad (oke_BadLoad T) (hr.mono (by decide)) (a_cons x_str a_nil) (l_cons l_nil))) z_nil) (dss_one (ds_objPut 11 (fk_forces T 11 rfl).1 (fk_forces T 11 rfl).2 (de_var 0) (x_callTy (cr_tuple rfl) prim_tuple T.n_tuple (by decide +kernel) (a_cons (de_var 1) a_nil))))))⟩

def b_Force___init___0 : MS := (zIf (kNot (kB (kCall m_is_number (aCons (mvar 1) aNil)))) (zRaiseN 1 ["what"] (aCons (kC (.str "across")) aNil)) zNx)
def b_Force___init___1 : MS := (zIf (kNot (kB (kCall m_is_number (aCons (mvar 2) aNil)))) (zRaiseN 1 ["what"] (aCons (kC (.str "up")) aNil)) zNx)
def b_Force___init___2 : MS := (zIf (kNot (kB (kCall m_is_number (aCons (mvar 3) aNil)))) (zRaiseN 1 ["what"] (aCons (kC (.str "moment")) aNil)) zNx)
def b_Force___init___3 : MS := (objPut 10 "across" (mvar 0) (mvar 1))
def b_Force___init___4 : MS := (objPut 10 "up" (mvar 0) (mvar 2))
def b_Force___init___5 : MS := (objPut 10 "moment" (mvar 0) (mvar 3))
def b_Force___init__ : MS := (sseq b_Force___init___0 (sseq b_Force___init___1 (sseq b_Force___init___2 (sseq b_Force___init___3 (sseq b_Force___init___4 b_Force___init___5)))))
def m_Force___init__ : List D → M D := mdef 4 b_Force___init__
theorem ok_Force___init__ (T : Txt K mg a) : FnOk P w K mg base (L2.CX P w) 3 a.f_Force___init__ a.d_Force___init__ ["self", "across", "up", "moment"] (spM (gt a) 4 m_Force___init__) :=
  ok_fd T.t_Force___init__ sc_Force___init__ rfl fun cdv A outer s H E hr => by
    have tk0 := takes_of (X := (cxOf (L2.CX P w) P w K mg base ["self", "across", "up", "moment"] "Force.__init__" (defScope s_Force___init__) a.f_Force___init__ cdv A outer s H E)) (E := E) rfl rfl rfl rfl
    have po0 : PassesOwn (model P w) (cxOf (L2.CX P w) P w K mg base ["self", "across", "up", "moment"] "Force.__init__" (defScope s_Force___init__) a.f_Force___init__ cdv A outer s H E).A (cxOf (L2.CX P w) P w K mg base ["self", "across", "up", "moment"] "Force.__init__" (defScope s_Force___init__) a.f_Force___init__ cdv A outer s H E).env (cxOf (L2.CX P w) P w K mg base ["self", "across", "up", "moment"] "Force.__init__" (defScope s_Force___init__) a.f_Force___init__ cdv A outer s H E).xe := passes_of rfl
    exact ⟨_, (dss_cons (z_if (q_not (q_val (x_call (ok_is_number T) (hr.mono (by decide)) tk0 T.m_is_number T.t_is_number.kp T.b_is_number (a_cons (de_var 1) a_nil) (l_cons l_nil)))) (dss_one (z_raise1 (cn := 1) rfl tk0 T.e_BadForce (oke_BadForce T) (hr.mono (by decide)) (a_cons x_str a_nil) (l_cons l_nil))) z_nil) (dss_cons (z_if (q_not (q_val (x_call (ok_is_number T) (hr.mono (by decide)) tk0 T.m_is_number T.t_is_number.kp T.b_is_number (a_cons (de_var 2) a_nil) (l_cons l_nil)))) (dss_one (z_raise1 (cn := 1) rfl tk0 T.e_BadForce (oke_BadForce T) (hr.mono (by decide)) (a_cons x_str a_nil) (l_cons l_nil))) z_nil) (dss_cons (z_if (q_not (q_val (x_call (ok_is_number T) (hr.mono (by decide)) tk0 T.m_is_number T.t_is_number.kp T.b_is_number (a_cons (de_var 3) a_nil) (l_cons l_nil)))) (dss_one (z_raise1 (cn := 1) rfl tk0 T.e_BadForce (oke_BadForce T) (hr.mono (by decide)) (a_cons x_str a_nil) (l_cons l_nil))) z_nil) (dss_cons (ds_objPut 10 (fk_across T 10 rfl).1 (fk_across T 10 rfl).2 (de_var 0) (de_var 1)) (dss_cons (ds_objPut 10 (fk_up T 10 rfl).1 (fk_up T 10 rfl).2 (de_var 0) (de_var 2)) (dss_one (ds_objPut 10 (fk_moment T 10 rfl).1 (fk_moment T 10 rfl).2 (de_var 0) (de_var 3))))))))⟩

def b_Force_none : MS := (zRet (kMkV 10 m_Force___init__ [] (mvar 0) (aCons (kC (.int 0)) (aCons (kC (.int 0)) (aCons (kC (.int 0)) aNil)))))
def m_Force_none : List D → M D := mdef 1 b_Force_none
theorem ok_Force_none (T : Txt K mg a) : FnOk P w K mg base (L2.CX P w) 5 a.f_Force_none a.d_Force_none ["cls"] (spM (gt a) 1 m_Force_none) :=
  ok_fd T.t_Force_none sc_Force_none rfl fun cdv A outer s H E hr => by
    have tk0 := takes_of (X := (cxOf (L2.CX P w) P w K mg base ["cls"] "Force.none" (defScope s_Force_none) a.f_Force_none cdv A outer s H E)) (E := E) rfl rfl rfl rfl
    have po0 : PassesOwn (model P w) (cxOf (L2.CX P w) P w K mg base ["cls"] "Force.none" (defScope s_Force_none) a.f_Force_none cdv A outer s H E).A (cxOf (L2.CX P w) P w K mg base ["cls"] "Force.none" (defScope s_Force_none) a.f_Force_none cdv A outer s H E).env (cxOf (L2.CX P w) P w K mg base ["cls"] "Force.none" (defScope s_Force_none) a.f_Force_none cdv A outer s H E).xe := passes_of rfl
    exact ⟨_, (dss_one (z_ret (x_makeV T.mk_Force (ok_Force___init__ T) (hr.mono (by decide)) tk0 .nil (fun _ _ => rfl) (de_var 0) (a_cons x_int (a_cons x_int (a_cons x_int a_nil))) (l_cons (l_cons (l_cons l_nil))) (by decide))))⟩

def b_Load_none_0 : MS := (zEx (kCall m__check_stones (aCons (mvar 1) aNil)))
def b_Load_none_1 : MS := (zRet (kMkV 11 m_Load___init__ [] (mvar 0) (aCons (kLc (iR1 (aCons (mvar 1) aNil)) (gnm 2) (fun _ => mret true) (kCmS 10 m_Force_none [] (kC (.cls 10)) aNil) [2]) aNil)))
def b_Load_none : MS := (sseq b_Load_none_0 b_Load_none_1)
def m_Load_none : List D → M D := mdef 3 b_Load_none
theorem ok_Load_none (T : Txt K mg a) : FnOk P w K mg base (L2.CX P w) 6 a.f_Load_none a.d_Load_none ["cls", "stones"] (spM (gt a) 2 m_Load_none) :=
  ok_fd T.t_Load_none sc_Load_none rfl fun cdv A outer s H E hr => by
    have tk0 := takes_of (X := (cxOf (L2.CX P w) P w K mg base ["cls", "stones", "_"] "Load.none" (defScope s_Load_none) a.f_Load_none cdv A outer s H E)) (E := E) rfl rfl rfl rfl
    have po0 : PassesOwn (model P w) (cxOf (L2.CX P w) P w K mg base ["cls", "stones", "_"] "Load.none" (defScope s_Load_none) a.f_Load_none cdv A outer s H E).A (cxOf (L2.CX P w) P w K mg base ["cls", "stones", "_"] "Load.none" (defScope s_Load_none) a.f_Load_none cdv A outer s H E).env (cxOf (L2.CX P w) P w K mg base ["cls", "stones", "_"] "Load.none" (defScope s_Load_none) a.f_Load_none cdv A outer s H E).xe := passes_of rfl
    exact ⟨_, (dss_cons (z_expr (x_call (ok__check_stones T) (hr.mono (by decide)) tk0 T.m__check_stones T.t__check_stones.kp T.b__check_stones (a_cons (de_var 1) a_nil) (l_cons l_nil))) (dss_one (z_ret (x_makeV T.mk_Load (ok_Load___init__ T) (hr.mono (by decide)) tk0 .nil (fun _ _ => rfl) (de_var 0) (a_cons (x_lc [("_", 2)] rfl sc_Load_none.nd (i_range1 T.n_range (a_cons (de_var 1) a_nil)) (blkOk_by (N := ["cls", "stones", "_"]) (sc := defScope s_Load_none) (by decide +kernel)) (fun _ _ _ _ _ => (dg_name (i := 2) (by decide) sc_Load_none.nd)) (fun _ _ _ _ _ => pts_nil) run_yes (fun _ _ _ _ _ => (x_cmtS0 T.cm_Force_none (ok_Force_none T) (hr.mono (by decide)) takes0 .nil (fun _ _ => rfl) (x_cls (n := 10) T.m_Force) (by decide)))) a_nil) (l_cons l_nil) (by decide)))))⟩

def b_Load___len__ : MS := (zRet (kCall lenD (aCons (kFld cf_forces "forces" (mvar 0)) aNil)))
def m_Load___len__ : List D → M D := mdef 1 b_Load___len__
theorem ok_Load___len__ (T : Txt K mg a) : FnOk P w K mg base (L2.CX P w) 1 a.f_Load___len__ a.d_Load___len__ ["self"] (spM (gt a) 1 m_Load___len__) :=
  ok_fd T.t_Load___len__ sc_Load___len__ rfl fun cdv A outer s H E hr => by
    have tk0 := takes_of (X := (cxOf (L2.CX P w) P w K mg base ["self"] "Load.__len__" (defScope s_Load___len__) a.f_Load___len__ cdv A outer s H E)) (E := E) rfl rfl rfl rfl
    have po0 : PassesOwn (model P w) (cxOf (L2.CX P w) P w K mg base ["self"] "Load.__len__" (defScope s_Load___len__) a.f_Load___len__ cdv A outer s H E).A (cxOf (L2.CX P w) P w K mg base ["self"] "Load.__len__" (defScope s_Load___len__) a.f_Load___len__ cdv A outer s H E).env (cxOf (L2.CX P w) P w K mg base ["self"] "Load.__len__" (defScope s_Load___len__) a.f_Load___len__ cdv A outer s H E).xe := passes_of rfl
    exact ⟨_, (dss_one (z_ret (x_callB (cr_len rfl) (prim_len) T.n_len (by decide +kernel) (a_cons (x_fld (fk_forces T) (de_var 0)) a_nil))))⟩

def b__checked_own_0 : MS := (zIf (kB (kOp isNo (mvar 0) (kC .non))) (zRet (kCmS 11 m_Load_none [] (kC (.cls 11)) (aCons (mvar 1) aNil))) zNx)
def b__checked_own_1 : MS := (zIf (kOr (kNot (kB (kCall (isiA ans) (aCons (mvar 0) (aCons (kC (.cls 11)) aNil))))) (kB (kOp neA (kCall (lenO 11 m_Load___len__) (aCons (mvar 0) aNil)) (mvar 1)))) (zRaiseN 6 ["what", "joint"] (aCons (kC (.str "own")) (aCons (kC .non) aNil))) zNx)
def b__checked_own_2 : MS := (zRet (mvar 0))
def b__checked_own : MS := (sseq b__checked_own_0 (sseq b__checked_own_1 b__checked_own_2))
def m__checked_own : List D → M D := mdef 2 b__checked_own
theorem ok__checked_own (T : Txt K mg a) : FnOk P w K mg base (L2.CX P w) 7 a.f__checked_own a.d__checked_own ["own", "stones"] (spM (gt a) 2 m__checked_own) :=
  ok_fd T.t__checked_own sc__checked_own rfl fun cdv A outer s H E hr => by
    have tk0 := takes_of (X := (cxOf (L2.CX P w) P w K mg base ["own", "stones"] "_checked_own" (defScope s__checked_own) a.f__checked_own cdv A outer s H E)) (E := E) rfl rfl rfl rfl
    have po0 : PassesOwn (model P w) (cxOf (L2.CX P w) P w K mg base ["own", "stones"] "_checked_own" (defScope s__checked_own) a.f__checked_own cdv A outer s H E).A (cxOf (L2.CX P w) P w K mg base ["own", "stones"] "_checked_own" (defScope s__checked_own) a.f__checked_own cdv A outer s H E).env (cxOf (L2.CX P w) P w K mg base ["own", "stones"] "_checked_own" (defScope s__checked_own) a.f__checked_own cdv A outer s H E).xe := passes_of rfl
    exact ⟨_, (dss_cons (z_if (q_cmp op_isN prim_isNo (de_var 0) x_non) (dss_one (z_ret (x_cmtS T.cm_Load_none (ok_Load_none T) (hr.mono (by decide)) tk0 .nil (fun _ _ => rfl) (x_cls (n := 11) T.m_Load) (a_cons (de_var 1) a_nil) (l_cons l_nil) (by decide)))) z_nil) (dss_cons (z_if (dt_w (w_or (q_not (q_val (x_callB (cr_isi rfl) (prim_isiA (isa T)) T.n_isinstance (by decide +kernel) (a_cons (de_var 0) (a_cons (x_cls (n := 11) T.m_Load) a_nil))))) (w_or1 (q_cmp (op_neA rfl hr.units) prim_ne (x_callB (cr_lenO T.ow_Load___len__ (ok_Load___len__ T) (hr.mono (by decide))) prim_lenO T.n_len (by decide +kernel) (a_cons (de_var 0) a_nil)) (de_var 1))))) (dss_one (z_raise2 (cn := 6) rfl tk0 T.e_BadBridge (oke_BadBridge T) (hr.mono (by decide)) (a_cons x_str (a_cons x_non a_nil)) (l_cons (l_cons l_nil)) (hff := by decide))) z_nil) (dss_one (z_ret (de_var 0)))))⟩

def b_Bridge___init___0 : MS := (objPut 12 "joints" (mvar 0) (kCall m__checked_joints (aCons (mvar 1) aNil)))
def b_Bridge___init___1 : MS := (objPut 12 "stones" (mvar 0) (kOp subI (kCall lenD (aCons (kFld cf_joints "joints" (mvar 0)) aNil)) (kC (.int 1))))
def b_Bridge___init___2 : MS := (objPut 12 "corner_count" (mvar 0) (kOp mulI (kC (.int 2)) (kCall lenD (aCons (kFld cf_joints "joints" (mvar 0)) aNil))))
def b_Bridge___init___3 : MS := (objPut 12 "own" (mvar 0) (kCall m__checked_own (aCons (mvar 2) (aCons (kFld cf_stones "stones" (mvar 0)) aNil))))
def b_Bridge___init__ : MS := (sseq b_Bridge___init___0 (sseq b_Bridge___init___1 (sseq b_Bridge___init___2 b_Bridge___init___3)))
def m_Bridge___init__ : List D → M D := mdef 3 b_Bridge___init__
theorem ok_Bridge___init__ (T : Txt K mg a) : FnOk P w K mg base (L2.CX P w) 8 a.f_Bridge___init__ a.d_Bridge___init__ ["self", "joints", "own"] (spM (gt a) 3 m_Bridge___init__) :=
  ok_fd T.t_Bridge___init__ sc_Bridge___init__ rfl fun cdv A outer s H E hr => by
    have tk0 := takes_of (X := (cxOf (L2.CX P w) P w K mg base ["self", "joints", "own"] "Bridge.__init__" (defScope s_Bridge___init__) a.f_Bridge___init__ cdv A outer s H E)) (E := E) rfl rfl rfl rfl
    have po0 : PassesOwn (model P w) (cxOf (L2.CX P w) P w K mg base ["self", "joints", "own"] "Bridge.__init__" (defScope s_Bridge___init__) a.f_Bridge___init__ cdv A outer s H E).A (cxOf (L2.CX P w) P w K mg base ["self", "joints", "own"] "Bridge.__init__" (defScope s_Bridge___init__) a.f_Bridge___init__ cdv A outer s H E).env (cxOf (L2.CX P w) P w K mg base ["self", "joints", "own"] "Bridge.__init__" (defScope s_Bridge___init__) a.f_Bridge___init__ cdv A outer s H E).xe := passes_of rfl
    exact ⟨_, (dss_cons (ds_objPut 12 (fk_joints T 12 rfl).1 (fk_joints T 12 rfl).2 (de_var 0) (x_call (ok__checked_joints T) (hr.mono (by decide)) tk0 T.m__checked_joints T.t__checked_joints.kp T.b__checked_joints (a_cons (de_var 1) a_nil) (l_cons l_nil))) (dss_cons (ds_objPut 12 (fk_stones T 12 rfl).1 (fk_stones T 12 rfl).2 (de_var 0) (x_op op_sub prim_sub (x_callB (cr_len rfl) (prim_len) T.n_len (by decide +kernel) (a_cons (x_fld (fk_joints T) (de_var 0)) a_nil)) x_int)) (dss_cons (ds_objPut 12 (fk_corner_count T 12 rfl).1 (fk_corner_count T 12 rfl).2 (de_var 0) (x_op op_mulX prim_mul x_int (x_callB (cr_len rfl) (prim_len) T.n_len (by decide +kernel) (a_cons (x_fld (fk_joints T) (de_var 0)) a_nil)))) (dss_one (ds_objPut 12 (fk_own T 12 rfl).1 (fk_own T 12 rfl).2 (de_var 0) (x_call (ok__checked_own T) (hr.mono (by decide)) tk0 T.m__checked_own T.t__checked_own.kp T.b__checked_own (a_cons (de_var 2) (a_cons (x_fld (fk_stones T) (de_var 0)) a_nil)) (l_cons (l_cons l_nil))))))))⟩

def b_Weights___len__ : MS := (zRet (kCall lenD (aCons (kFld cf_numbers "numbers" (mvar 0)) aNil)))
def m_Weights___len__ : List D → M D := mdef 1 b_Weights___len__
theorem ok_Weights___len__ (T : Txt K mg a) : FnOk P w K mg base (L2.CX P w) 1 a.f_Weights___len__ a.d_Weights___len__ ["self"] (spM (gt a) 1 m_Weights___len__) :=
  ok_fd T.t_Weights___len__ sc_Weights___len__ rfl fun cdv A outer s H E hr => by
    have tk0 := takes_of (X := (cxOf (L2.CX P w) P w K mg base ["self"] "Weights.__len__" (defScope s_Weights___len__) a.f_Weights___len__ cdv A outer s H E)) (E := E) rfl rfl rfl rfl
    have po0 : PassesOwn (model P w) (cxOf (L2.CX P w) P w K mg base ["self"] "Weights.__len__" (defScope s_Weights___len__) a.f_Weights___len__ cdv A outer s H E).A (cxOf (L2.CX P w) P w K mg base ["self"] "Weights.__len__" (defScope s_Weights___len__) a.f_Weights___len__ cdv A outer s H E).env (cxOf (L2.CX P w) P w K mg base ["self"] "Weights.__len__" (defScope s_Weights___len__) a.f_Weights___len__ cdv A outer s H E).xe := passes_of rfl
    exact ⟨_, (dss_one (z_ret (x_callB (cr_len rfl) (prim_len) T.n_len (by decide +kernel) (a_cons (x_fld (fk_numbers T) (de_var 0)) a_nil))))⟩

def b_check_weights : MS := (zIf (kB (kOp neA (kCall (lenO 14 m_Weights___len__) (aCons (mvar 1) aNil)) (kFld cf_corner_count "corner_count" (mvar 0)))) (zRaise 3) zNx)
def m_check_weights : List D → M D := mdef 2 b_check_weights
theorem ok_check_weights (T : Txt K mg a) : FnOk P w K mg base (L2.CX P w) 3 a.f_check_weights a.d_check_weights ["bridge", "weights"] (spM (gt a) 2 m_check_weights) :=
  ok_fd T.t_check_weights sc_check_weights rfl fun cdv A outer s H E hr => by
    have tk0 := takes_of (X := (cxOf (L2.CX P w) P w K mg base ["bridge", "weights"] "check_weights" (defScope s_check_weights) a.f_check_weights cdv A outer s H E)) (E := E) rfl rfl rfl rfl
    have po0 : PassesOwn (model P w) (cxOf (L2.CX P w) P w K mg base ["bridge", "weights"] "check_weights" (defScope s_check_weights) a.f_check_weights cdv A outer s H E).A (cxOf (L2.CX P w) P w K mg base ["bridge", "weights"] "check_weights" (defScope s_check_weights) a.f_check_weights cdv A outer s H E).env (cxOf (L2.CX P w) P w K mg base ["bridge", "weights"] "check_weights" (defScope s_check_weights) a.f_check_weights cdv A outer s H E).xe := passes_of rfl
    exact ⟨_, (dss_one (z_if (q_cmp (op_neA rfl hr.units) prim_ne (x_callB (cr_lenO T.ow_Weights___len__ (ok_Weights___len__ T) (hr.mono (by decide))) prim_lenO T.n_len (by decide +kernel) (a_cons (de_var 1) a_nil)) (x_fld (fk_corner_count T) (de_var 0))) (dss_one (z_raise0 (cn := 3) rfl tk0 T.e_OtherSize sci_OtherSize rfl (hr.mono (by decide)))) z_nil))⟩

def b_Motion___init___0 : MS := (zIf (kOr (kNot (kB (kCall m_is_number (aCons (mvar 1) aNil)))) (kOr (kNot (kB (kCall m_is_number (aCons (mvar 2) aNil)))) (kNot (kB (kCall m_is_number (aCons (mvar 3) aNil)))))) (zRaise 8) zNx)
def b_Motion___init___1 : MS := (objPut 13 "turn" (mvar 0) (mvar 1))
def b_Motion___init___2 : MS := (objPut 13 "across" (mvar 0) (mvar 2))
def b_Motion___init___3 : MS := (objPut 13 "up" (mvar 0) (mvar 3))
def b_Motion___init__ : MS := (sseq b_Motion___init___0 (sseq b_Motion___init___1 (sseq b_Motion___init___2 b_Motion___init___3)))
def m_Motion___init__ : List D → M D := mdef 4 b_Motion___init__
theorem ok_Motion___init__ (T : Txt K mg a) : FnOk P w K mg base (L2.CX P w) 3 a.f_Motion___init__ a.d_Motion___init__ ["self", "turn", "across", "up"] (spM (gt a) 4 m_Motion___init__) :=
  ok_fd T.t_Motion___init__ sc_Motion___init__ rfl fun cdv A outer s H E hr => by
    have tk0 := takes_of (X := (cxOf (L2.CX P w) P w K mg base ["self", "turn", "across", "up"] "Motion.__init__" (defScope s_Motion___init__) a.f_Motion___init__ cdv A outer s H E)) (E := E) rfl rfl rfl rfl
    have po0 : PassesOwn (model P w) (cxOf (L2.CX P w) P w K mg base ["self", "turn", "across", "up"] "Motion.__init__" (defScope s_Motion___init__) a.f_Motion___init__ cdv A outer s H E).A (cxOf (L2.CX P w) P w K mg base ["self", "turn", "across", "up"] "Motion.__init__" (defScope s_Motion___init__) a.f_Motion___init__ cdv A outer s H E).env (cxOf (L2.CX P w) P w K mg base ["self", "turn", "across", "up"] "Motion.__init__" (defScope s_Motion___init__) a.f_Motion___init__ cdv A outer s H E).xe := passes_of rfl
    exact ⟨_, (dss_cons (z_if (dt_w (w_or (q_not (q_val (x_call (ok_is_number T) (hr.mono (by decide)) tk0 T.m_is_number T.t_is_number.kp T.b_is_number (a_cons (de_var 1) a_nil) (l_cons l_nil)))) (w_or (q_not (q_val (x_call (ok_is_number T) (hr.mono (by decide)) tk0 T.m_is_number T.t_is_number.kp T.b_is_number (a_cons (de_var 2) a_nil) (l_cons l_nil)))) (w_or1 (q_not (q_val (x_call (ok_is_number T) (hr.mono (by decide)) tk0 T.m_is_number T.t_is_number.kp T.b_is_number (a_cons (de_var 3) a_nil) (l_cons l_nil)))))))) (dss_one (z_raise0 (cn := 8) rfl tk0 T.e_BadMotion sci_BadMotion rfl (hr.mono (by decide)))) z_nil) (dss_cons (ds_objPut 13 (fk_turn T 13 rfl).1 (fk_turn T 13 rfl).2 (de_var 0) (de_var 1)) (dss_cons (ds_objPut 13 (fk_across T 13 rfl).1 (fk_across T 13 rfl).2 (de_var 0) (de_var 2)) (dss_one (ds_objPut 13 (fk_up T 13 rfl).1 (fk_up T 13 rfl).2 (de_var 0) (de_var 3))))))⟩

def b_Motion_none : MS := (zRet (kMkV 13 m_Motion___init__ [] (mvar 0) (aCons (kC (.int 0)) (aCons (kC (.int 0)) (aCons (kC (.int 0)) aNil)))))
def m_Motion_none : List D → M D := mdef 1 b_Motion_none
theorem ok_Motion_none (T : Txt K mg a) : FnOk P w K mg base (L2.CX P w) 5 a.f_Motion_none a.d_Motion_none ["cls"] (spM (gt a) 1 m_Motion_none) :=
  ok_fd T.t_Motion_none sc_Motion_none rfl fun cdv A outer s H E hr => by
    have tk0 := takes_of (X := (cxOf (L2.CX P w) P w K mg base ["cls"] "Motion.none" (defScope s_Motion_none) a.f_Motion_none cdv A outer s H E)) (E := E) rfl rfl rfl rfl
    have po0 : PassesOwn (model P w) (cxOf (L2.CX P w) P w K mg base ["cls"] "Motion.none" (defScope s_Motion_none) a.f_Motion_none cdv A outer s H E).A (cxOf (L2.CX P w) P w K mg base ["cls"] "Motion.none" (defScope s_Motion_none) a.f_Motion_none cdv A outer s H E).env (cxOf (L2.CX P w) P w K mg base ["cls"] "Motion.none" (defScope s_Motion_none) a.f_Motion_none cdv A outer s H E).xe := passes_of rfl
    exact ⟨_, (dss_one (z_ret (x_makeV T.mk_Motion (ok_Motion___init__ T) (hr.mono (by decide)) tk0 .nil (fun _ _ => rfl) (de_var 0) (a_cons x_int (a_cons x_int (a_cons x_int a_nil))) (l_cons (l_cons (l_cons l_nil))) (by decide))))⟩

def b_Motion_turning_0 : MS := (sasg (mvar 1) (gtm 2 (gcn (gnm 3) (gcn (gnm 4) gnl))))
def b_Motion_turning_1 : MS := (zRet (kMkV 13 m_Motion___init__ [] (mvar 0) (aCons (mvar 2) (aCons (kOp mulI (mvar 2) (mvar 4)) (aCons (kOp mulI (kUn negI (mvar 2)) (mvar 3)) aNil)))))
def b_Motion_turning : MS := (sseq b_Motion_turning_0 b_Motion_turning_1)
def m_Motion_turning : List D → M D := mdef 5 b_Motion_turning
theorem ok_Motion_turning (T : Txt K mg a) : FnOk P w K mg base (L2.CX P w) 5 a.f_Motion_turning a.d_Motion_turning ["cls", "point", "turn"] (spM (gt a) 3 m_Motion_turning) :=
  ok_fd T.t_Motion_turning sc_Motion_turning rfl fun cdv A outer s H E hr => by
    have tk0 := takes_of (X := (cxOf (L2.CX P w) P w K mg base ["cls", "point", "turn", "x", "y"] "Motion.turning" (defScope s_Motion_turning) a.f_Motion_turning cdv A outer s H E)) (E := E) rfl rfl rfl rfl
    have po0 : PassesOwn (model P w) (cxOf (L2.CX P w) P w K mg base ["cls", "point", "turn", "x", "y"] "Motion.turning" (defScope s_Motion_turning) a.f_Motion_turning cdv A outer s H E).A (cxOf (L2.CX P w) P w K mg base ["cls", "point", "turn", "x", "y"] "Motion.turning" (defScope s_Motion_turning) a.f_Motion_turning cdv A outer s H E).env (cxOf (L2.CX P w) P w K mg base ["cls", "point", "turn", "x", "y"] "Motion.turning" (defScope s_Motion_turning) a.f_Motion_turning cdv A outer s H E).xe := passes_of rfl
    exact ⟨_, (dss_cons (ds_asg (vs := [3, 4]) (de_var 1) (g_tup rfl rfl (g_cons (dg_name (i := 3) (by decide) sc_Motion_turning.nd) (g_cons (dg_name (i := 4) (by decide) sc_Motion_turning.nd) g_nil)))) (dss_one (z_ret (x_makeV T.mk_Motion (ok_Motion___init__ T) (hr.mono (by decide)) tk0 .nil (fun _ _ => rfl) (de_var 0) (a_cons (de_var 2) (a_cons (x_op op_mulX prim_mul (de_var 2) (de_var 4)) (a_cons (x_op op_mulX prim_mul (x_un un_neg prim_neg (de_var 2)) (de_var 3)) a_nil))) (l_cons (l_cons (l_cons l_nil))) (by decide)))))⟩

def b_side_of : MS := (zRet (kIf (kB (kOp eqA (kOp fmdI (mvar 0) (kC (.int 2))) (kC (.int 0)))) (kC (.int 1)) (kUn negI (kC (.int 1)))))
def m_side_of : List D → M D := mdef 1 b_side_of
theorem ok_side_of (T : Txt K mg a) : FnOk P w K mg base (L2.CX P w) 1 a.f_side_of a.d_side_of ["corner"] (spM (gt a) 1 m_side_of) :=
  ok_fd T.t_side_of sc_side_of rfl fun cdv A outer s H E hr => by
    have tk0 := takes_of (X := (cxOf (L2.CX P w) P w K mg base ["corner"] "side_of" (defScope s_side_of) a.f_side_of cdv A outer s H E)) (E := E) rfl rfl rfl rfl
    have po0 : PassesOwn (model P w) (cxOf (L2.CX P w) P w K mg base ["corner"] "side_of" (defScope s_side_of) a.f_side_of cdv A outer s H E).A (cxOf (L2.CX P w) P w K mg base ["corner"] "side_of" (defScope s_side_of) a.f_side_of cdv A outer s H E).env (cxOf (L2.CX P w) P w K mg base ["corner"] "side_of" (defScope s_side_of) a.f_side_of cdv A outer s H E).xe := passes_of rfl
    exact ⟨_, (dss_one (z_ret (x_ifExp (q_cmp (op_eqA rfl hr.units) prim_eq (x_op op_modN prim_fmd (de_var 0) x_int) x_int) x_int (x_un un_neg prim_neg x_int))))⟩

def b_Weights___getitem___0 : MS := (zIf (kNot (kB (kCall m_is_whole (aCons (mvar 1) (aCons (kC (.int 0)) (aCons (kOp subI (kCall lenD (aCons (kFld cf_numbers "numbers" (mvar 0)) aNil)) (kC (.int 1))) aNil)))))) (zRaiseN 5 ["corner"] (aCons (mvar 1) aNil)) zNx)
def b_Weights___getitem___1 : MS := (zRet (kOp itemD (kFld cf_numbers "numbers" (mvar 0)) (mvar 1)))
def b_Weights___getitem__ : MS := (sseq b_Weights___getitem___0 b_Weights___getitem___1)
def m_Weights___getitem__ : List D → M D := mdef 2 b_Weights___getitem__
theorem ok_Weights___getitem__ (T : Txt K mg a) : FnOk P w K mg base (L2.CX P w) 3 a.f_Weights___getitem__ a.d_Weights___getitem__ ["self", "at"] (spM (gt a) 2 m_Weights___getitem__) :=
  ok_fd T.t_Weights___getitem__ sc_Weights___getitem__ rfl fun cdv A outer s H E hr => by
    have tk0 := takes_of (X := (cxOf (L2.CX P w) P w K mg base ["self", "at"] "Weights.__getitem__" (defScope s_Weights___getitem__) a.f_Weights___getitem__ cdv A outer s H E)) (E := E) rfl rfl rfl rfl
    have po0 : PassesOwn (model P w) (cxOf (L2.CX P w) P w K mg base ["self", "at"] "Weights.__getitem__" (defScope s_Weights___getitem__) a.f_Weights___getitem__ cdv A outer s H E).A (cxOf (L2.CX P w) P w K mg base ["self", "at"] "Weights.__getitem__" (defScope s_Weights___getitem__) a.f_Weights___getitem__ cdv A outer s H E).env (cxOf (L2.CX P w) P w K mg base ["self", "at"] "Weights.__getitem__" (defScope s_Weights___getitem__) a.f_Weights___getitem__ cdv A outer s H E).xe := passes_of rfl
    exact ⟨_, (dss_cons (z_if (q_not (q_val (x_call (ok_is_whole T) (hr.mono (by decide)) tk0 T.m_is_whole T.t_is_whole.kp T.b_is_whole (a_cons (de_var 1) (a_cons x_int (a_cons (x_op op_sub prim_sub (x_callB (cr_len rfl) (prim_len) T.n_len (by decide +kernel) (a_cons (x_fld (fk_numbers T) (de_var 0)) a_nil)) x_int) a_nil))) (l_cons (l_cons (l_cons l_nil)))))) (dss_one (z_raise1 (cn := 5) rfl tk0 T.e_NoCorner (oke_NoCorner T) (hr.mono (by decide)) (a_cons (de_var 1) a_nil) (l_cons l_nil))) z_nil) (dss_one (z_ret (x_ix rfl (x_fld (fk_numbers T) (de_var 0)) (de_var 1)))))⟩

def b_Bridge_point_0 : MS := (zIf (kNot (kB (kCall m_is_whole (aCons (mvar 1) (aCons (kC (.int 0)) (aCons (kOp subI (kFld cf_corner_count "corner_count" (mvar 0)) (kC (.int 1))) aNil)))))) (zRaiseN 5 ["corner"] (aCons (mvar 1) aNil)) zNx)
def b_Bridge_point_1 : MS := (zRet (kOp itemD (kOp itemD (kFld cf_joints "joints" (mvar 0)) (kOp fdvI (mvar 1) (kC (.int 2)))) (kOp fmdI (mvar 1) (kC (.int 2)))))
def b_Bridge_point : MS := (sseq b_Bridge_point_0 b_Bridge_point_1)
def m_Bridge_point : List D → M D := mdef 2 b_Bridge_point
theorem ok_Bridge_point (T : Txt K mg a) : FnOk P w K mg base (L2.CX P w) 3 a.f_Bridge_point a.d_Bridge_point ["self", "corner"] (spM (gt a) 2 m_Bridge_point) :=
  ok_fd T.t_Bridge_point sc_Bridge_point rfl fun cdv A outer s H E hr => by
    have tk0 := takes_of (X := (cxOf (L2.CX P w) P w K mg base ["self", "corner"] "Bridge.point" (defScope s_Bridge_point) a.f_Bridge_point cdv A outer s H E)) (E := E) rfl rfl rfl rfl
    have po0 : PassesOwn (model P w) (cxOf (L2.CX P w) P w K mg base ["self", "corner"] "Bridge.point" (defScope s_Bridge_point) a.f_Bridge_point cdv A outer s H E).A (cxOf (L2.CX P w) P w K mg base ["self", "corner"] "Bridge.point" (defScope s_Bridge_point) a.f_Bridge_point cdv A outer s H E).env (cxOf (L2.CX P w) P w K mg base ["self", "corner"] "Bridge.point" (defScope s_Bridge_point) a.f_Bridge_point cdv A outer s H E).xe := passes_of rfl
    exact ⟨_, (dss_cons (z_if (q_not (q_val (x_call (ok_is_whole T) (hr.mono (by decide)) tk0 T.m_is_whole T.t_is_whole.kp T.b_is_whole (a_cons (de_var 1) (a_cons x_int (a_cons (x_op op_sub prim_sub (x_fld (fk_corner_count T) (de_var 0)) x_int) a_nil))) (l_cons (l_cons (l_cons l_nil)))))) (dss_one (z_raise1 (cn := 5) rfl tk0 T.e_NoCorner (oke_NoCorner T) (hr.mono (by decide)) (a_cons (de_var 1) a_nil) (l_cons l_nil))) z_nil) (dss_one (z_ret (x_ix rfl (x_ix rfl (x_fld (fk_joints T) (de_var 0)) (x_op op_fdivX prim_fdv (de_var 1) x_int)) (x_op op_modN prim_fmd (de_var 1) x_int)))))⟩

def b_Motion___add__ : MS := (zRet (kMk 13 m_Motion___init__ [] (aCons (kOp addIL (kFld cf_turn "turn" (mvar 0)) (kFld cf_turn "turn" (mvar 1))) (aCons (kOp addIL (kFld cf_across "across" (mvar 0)) (kFld cf_across "across" (mvar 1))) (aCons (kOp addIL (kFld cf_up "up" (mvar 0)) (kFld cf_up "up" (mvar 1))) aNil)))))
def m_Motion___add__ : List D → M D := mdef 2 b_Motion___add__
theorem ok_Motion___add__ (T : Txt K mg a) : FnOk P w K mg base (L2.CX P w) 5 a.f_Motion___add__ a.d_Motion___add__ ["self", "other"] (spM (gt a) 2 m_Motion___add__) :=
  ok_fd T.t_Motion___add__ sc_Motion___add__ rfl fun cdv A outer s H E hr => by
    have tk0 := takes_of (X := (cxOf (L2.CX P w) P w K mg base ["self", "other"] "Motion.__add__" (defScope s_Motion___add__) a.f_Motion___add__ cdv A outer s H E)) (E := E) rfl rfl rfl rfl
    have po0 : PassesOwn (model P w) (cxOf (L2.CX P w) P w K mg base ["self", "other"] "Motion.__add__" (defScope s_Motion___add__) a.f_Motion___add__ cdv A outer s H E).A (cxOf (L2.CX P w) P w K mg base ["self", "other"] "Motion.__add__" (defScope s_Motion___add__) a.f_Motion___add__ cdv A outer s H E).env (cxOf (L2.CX P w) P w K mg base ["self", "other"] "Motion.__add__" (defScope s_Motion___add__) a.f_Motion___add__ cdv A outer s H E).xe := passes_of rfl
    exact ⟨_, (dss_one (z_ret (x_mk T.mk_Motion (ok_Motion___init__ T) (hr.mono (by decide)) tk0 .nil (fun _ _ => rfl) (a_cons (x_op (op_add.or op_cat) prim_addIL (x_fld (fk_turn T) (de_var 0)) (x_fld (fk_turn T) (de_var 1))) (a_cons (x_op (op_add.or op_cat) prim_addIL (x_fld (fk_across T) (de_var 0)) (x_fld (fk_across T) (de_var 1))) (a_cons (x_op (op_add.or op_cat) prim_addIL (x_fld (fk_up T) (de_var 0)) (x_fld (fk_up T) (de_var 1))) a_nil))) (l_cons (l_cons (l_cons l_nil))) (by decide))))⟩

def lb__motion_behind_0 : MS := (sasg (kOp (ownX 13 m_Motion___add__) (mvar 3) (kCmS 13 m_Motion_turning [] (kC (.cls 13)) (aCons (kMeth 12 "point" m_Bridge_point [] (mvar 0) (aCons (mvar 4) aNil)) (aCons (kOp mulI (kCall m_side_of (aCons (mvar 4) aNil)) (kOp (ixO 14 m_Weights___getitem__) (mvar 1) (mvar 4))) aNil)))) (gnm 3))
def b__motion_behind_0 : MS := (sasg (kCmS 13 m_Motion_none [] (kC (.cls 13)) aNil) (gnm 3))
def b__motion_behind_1 : MS := (sfor (iR2 (aCons (kOp mulI (kC (.int 2)) (mvar 2)) (aCons (kFld cf_corner_count "corner_count" (mvar 0)) aNil))) (gnm 4) lb__motion_behind_0)
def b__motion_behind_2 : MS := (zRet (mvar 3))
def b__motion_behind : MS := (sseq b__motion_behind_0 (sseq b__motion_behind_1 b__motion_behind_2))
def m__motion_behind : List D → M D := mdef 5 b__motion_behind
theorem ok__motion_behind (T : Txt K mg a) : FnOk P w K mg base (L2.CX P w) 6 a.f__motion_behind a.d__motion_behind ["bridge", "weights", "first"] (spM (gt a) 3 m__motion_behind) :=
  ok_fd T.t__motion_behind sc__motion_behind rfl fun cdv A outer s H E hr => by
    have tk0 := takes_of (X := (cxOf (L2.CX P w) P w K mg base ["bridge", "weights", "first", "motion", "corner"] "_motion_behind" (defScope s__motion_behind) a.f__motion_behind cdv A outer s H E)) (E := E) rfl rfl rfl rfl
    have po0 : PassesOwn (model P w) (cxOf (L2.CX P w) P w K mg base ["bridge", "weights", "first", "motion", "corner"] "_motion_behind" (defScope s__motion_behind) a.f__motion_behind cdv A outer s H E).A (cxOf (L2.CX P w) P w K mg base ["bridge", "weights", "first", "motion", "corner"] "_motion_behind" (defScope s__motion_behind) a.f__motion_behind cdv A outer s H E).env (cxOf (L2.CX P w) P w K mg base ["bridge", "weights", "first", "motion", "corner"] "_motion_behind" (defScope s__motion_behind) a.f__motion_behind cdv A outer s H E).xe := passes_of rfl
    exact ⟨_, (dss_cons (ds_set (i := 3) sc__motion_behind.nd (x_cmtS0 T.cm_Motion_none (ok_Motion_none T) (hr.mono (by decide)) tk0 .nil (fun _ _ => rfl) (x_cls (n := 13) T.m_Motion) (by decide))) (dss_cons (ds_for (vs := [4]) po0 rfl (i_range2 T.n_range (a_cons (x_op op_mulX prim_mul x_int (de_var 2)) (a_cons (x_fld (fk_corner_count T) (de_var 0)) a_nil))) (dg_name (i := 4) (by decide) sc__motion_behind.nd) (dss_one (ds_set (i := 3) sc__motion_behind.nd (x_own T.op_Motion___add__ (ok_Motion___add__ T) (hr.mono (by decide)) tk0 (de_var 3) (x_cmtS T.cm_Motion_turning (ok_Motion_turning T) (hr.mono (by decide)) tk0 .nil (fun _ _ => rfl) (x_cls (n := 13) T.m_Motion) (a_cons (x_meth T.mt_Bridge_point (ok_Bridge_point T) (hr.mono (by decide)) tk0 .nil (fun _ _ => rfl) (de_var 0) (a_cons (de_var 4) a_nil) (l_cons l_nil) (by decide)) (a_cons (x_op op_mulX prim_mul (x_call (ok_side_of T) (hr.mono (by decide)) tk0 T.m_side_of T.t_side_of.kp T.b_side_of (a_cons (de_var 4) a_nil) (l_cons l_nil)) (x_ixO T.ow_Weights___getitem__ (ok_Weights___getitem__ T) (hr.mono (by decide)) tk0 (de_var 1) (de_var 4))) a_nil)) (l_cons (l_cons l_nil)) (by decide)))))) (dss_one (z_ret (de_var 3)))))⟩

def b_stone_motions_0 : MS := (zEx (kCall m_check_weights (aCons (mvar 0) (aCons (mvar 1) aNil))))
def b_stone_motions_1 : MS := (zRet (kCall tupleD (aCons (kLc (iR1 (aCons (kFld cf_stones "stones" (mvar 0)) aNil)) (gnm 2) (fun _ => mret true) (kCall m__motion_behind (aCons (mvar 0) (aCons (mvar 1) (aCons (kOp addIL (mvar 2) (kC (.int 1))) aNil)))) [2]) aNil)))
def b_stone_motions : MS := (sseq b_stone_motions_0 b_stone_motions_1)
def m_stone_motions : List D → M D := mdef 3 b_stone_motions
theorem ok_stone_motions (T : Txt K mg a) : FnOk P w K mg base (L2.CX P w) 7 a.f_stone_motions a.d_stone_motions ["bridge", "weights"] (spM (gt a) 2 m_stone_motions) :=
  ok_fd T.t_stone_motions sc_stone_motions rfl fun cdv A outer s H E hr => by
    have tk0 := takes_of (X := (cxOf (L2.CX P w) P w K mg base ["bridge", "weights", "stone"] "stone_motions" (defScope s_stone_motions) a.f_stone_motions cdv A outer s H E)) (E := E) rfl rfl rfl rfl
    have po0 : PassesOwn (model P w) (cxOf (L2.CX P w) P w K mg base ["bridge", "weights", "stone"] "stone_motions" (defScope s_stone_motions) a.f_stone_motions cdv A outer s H E).A (cxOf (L2.CX P w) P w K mg base ["bridge", "weights", "stone"] "stone_motions" (defScope s_stone_motions) a.f_stone_motions cdv A outer s H E).env (cxOf (L2.CX P w) P w K mg base ["bridge", "weights", "stone"] "stone_motions" (defScope s_stone_motions) a.f_stone_motions cdv A outer s H E).xe := passes_of rfl
    exact ⟨_, (dss_cons (z_expr (x_call (ok_check_weights T) (hr.mono (by decide)) tk0 T.m_check_weights T.t_check_weights.kp T.b_check_weights (a_cons (de_var 0) (a_cons (de_var 1) a_nil)) (l_cons (l_cons l_nil)))) (dss_one (z_ret (x_callTy (cr_tuple rfl) prim_tuple T.n_tuple (by decide +kernel) (a_cons (x_lc [("stone", 2)] rfl sc_stone_motions.nd (i_range1 T.n_range (a_cons (x_fld (fk_stones T) (de_var 0)) a_nil)) (blkOk_by (N := ["bridge", "weights", "stone"]) (sc := defScope s_stone_motions) (by decide +kernel)) (fun _ _ _ _ _ => (dg_name (i := 2) (by decide) sc_stone_motions.nd)) (fun _ _ _ _ _ => pts_nil) run_yes (fun _ _ _ _ _ => (x_call (ok__motion_behind T) (hr.mono (by decide)) takes0 T.m__motion_behind T.t__motion_behind.kp T.b__motion_behind (a_cons (de_var 0) (a_cons (de_var 1) (a_cons (x_op (op_add.or op_cat) prim_addIL (de_var 2) x_int) a_nil))) (l_cons (l_cons (l_cons l_nil)))))) a_nil)))))⟩

def b_motion_of_0 : MS := (zEx (kCall m_check_weights (aCons (mvar 0) (aCons (mvar 1) aNil))))
def b_motion_of_1 : MS := (zRet (kCall m__motion_behind (aCons (mvar 0) (aCons (mvar 1) (aCons (kC (.int 0)) aNil)))))
def b_motion_of : MS := (sseq b_motion_of_0 b_motion_of_1)
def m_motion_of : List D → M D := mdef 2 b_motion_of
theorem ok_motion_of (T : Txt K mg a) : FnOk P w K mg base (L2.CX P w) 7 a.f_motion_of a.d_motion_of ["bridge", "weights"] (spM (gt a) 2 m_motion_of) :=
  ok_fd T.t_motion_of sc_motion_of rfl fun cdv A outer s H E hr => by
    have tk0 := takes_of (X := (cxOf (L2.CX P w) P w K mg base ["bridge", "weights"] "motion_of" (defScope s_motion_of) a.f_motion_of cdv A outer s H E)) (E := E) rfl rfl rfl rfl
    have po0 : PassesOwn (model P w) (cxOf (L2.CX P w) P w K mg base ["bridge", "weights"] "motion_of" (defScope s_motion_of) a.f_motion_of cdv A outer s H E).A (cxOf (L2.CX P w) P w K mg base ["bridge", "weights"] "motion_of" (defScope s_motion_of) a.f_motion_of cdv A outer s H E).env (cxOf (L2.CX P w) P w K mg base ["bridge", "weights"] "motion_of" (defScope s_motion_of) a.f_motion_of cdv A outer s H E).xe := passes_of rfl
    exact ⟨_, (dss_cons (z_expr (x_call (ok_check_weights T) (hr.mono (by decide)) tk0 T.m_check_weights T.t_check_weights.kp T.b_check_weights (a_cons (de_var 0) (a_cons (de_var 1) a_nil)) (l_cons (l_cons l_nil)))) (dss_one (z_ret (x_call (ok__motion_behind T) (hr.mono (by decide)) tk0 T.m__motion_behind T.t__motion_behind.kp T.b__motion_behind (a_cons (de_var 0) (a_cons (de_var 1) (a_cons x_int a_nil))) (l_cons (l_cons (l_cons l_nil)))))))⟩

def lb__law_plain_0 : MS := (zIf (kOr (kNot (kB (kCall (isiA ans) (aCons (mvar 1) (aCons (kC (.ty "int")) aNil))))) (kB (kCall (isiA ans) (aCons (mvar 1) (aCons (kC (.ty "bool")) aNil))))) (zRet (kC .non)) zNx)
def b__law_plain_0 : MS := (zIf (kNot (kB (kCall (isiA ans) (aCons (mvar 0) (aCons (kC (.cls 13)) aNil))))) (zRet (kC .non)) zNx)
def b__law_plain_1 : MS := (sfor (iT (kCall tupD (aCons (kFld cf_turn "turn" (mvar 0)) (aCons (kFld cf_across "across" (mvar 0)) (aCons (kFld cf_up "up" (mvar 0)) aNil))))) (gnm 1) lb__law_plain_0)
def b__law_plain_2 : MS := (zRet (kCall tupD (aCons (kFld cf_turn "turn" (mvar 0)) (aCons (kFld cf_across "across" (mvar 0)) (aCons (kFld cf_up "up" (mvar 0)) aNil)))))
def b__law_plain : MS := (sseq b__law_plain_0 (sseq b__law_plain_1 b__law_plain_2))
def m__law_plain : List D → M D := mdef 2 b__law_plain
theorem ok__law_plain (T : Txt K mg a) : FnOk P w K mg base (L2.CX P w) 1 a.f__law_plain a.d__law_plain ["_law_motion_here"] (spM (gt a) 1 m__law_plain) :=
  ok_fd T.t__law_plain sc__law_plain rfl fun cdv A outer s H E hr => by
    have tk0 := takes_of (X := (cxOf (L2.CX P w) P w K mg base ["_law_motion_here", "_law_number"] "_law_plain" (defScope s__law_plain) a.f__law_plain cdv A outer s H E)) (E := E) rfl rfl rfl rfl
    have po0 : PassesOwn (model P w) (cxOf (L2.CX P w) P w K mg base ["_law_motion_here", "_law_number"] "_law_plain" (defScope s__law_plain) a.f__law_plain cdv A outer s H E).A (cxOf (L2.CX P w) P w K mg base ["_law_motion_here", "_law_number"] "_law_plain" (defScope s__law_plain) a.f__law_plain cdv A outer s H E).env (cxOf (L2.CX P w) P w K mg base ["_law_motion_here", "_law_number"] "_law_plain" (defScope s__law_plain) a.f__law_plain cdv A outer s H E).xe := passes_of rfl
    exact ⟨_, (dss_cons (z_if (q_not (q_val (x_callB (cr_isi rfl) (prim_isiA (isa T)) T.n_isinstance (by decide +kernel) (a_cons (de_var 0) (a_cons (x_cls (n := 13) T.m_Motion) a_nil))))) (dss_one (z_ret x_non)) z_nil) (dss_cons (ds_for (vs := [1]) po0 rfl (i_tup rfl (x_tup (a_cons (x_fld (fk_turn T) (de_var 0)) (a_cons (x_fld (fk_across T) (de_var 0)) (a_cons (x_fld (fk_up T) (de_var 0)) a_nil))))) (dg_name (i := 1) (by decide) sc__law_plain.nd) (dss_one (z_if (dt_w (w_or (q_not (q_val (x_callB (cr_isi rfl) (prim_isiA (isa T)) T.n_isinstance (by decide +kernel) (a_cons (de_var 1) (a_cons (x_ty (n := "int") T.n_int (by decide +kernel)) a_nil))))) (w_or1 (q_val (x_callB (cr_isi rfl) (prim_isiA (isa T)) T.n_isinstance (by decide +kernel) (a_cons (de_var 1) (a_cons (x_ty (n := "bool") T.n_bool (by decide +kernel)) a_nil))))))) (dss_one (z_ret x_non)) z_nil))) (dss_one (z_ret (x_tup (a_cons (x_fld (fk_turn T) (de_var 0)) (a_cons (x_fld (fk_across T) (de_var 0)) (a_cons (x_fld (fk_up T) (de_var 0)) a_nil))))))))⟩

def b__law_corner : MS := (zRet (kOp itemD (kOp itemD (mvar 0) (kOp fdvI (mvar 1) (kC (.int 2)))) (kOp fmdI (mvar 1) (kC (.int 2)))))
def m__law_corner : List D → M D := mdef 2 b__law_corner
theorem ok__law_corner (T : Txt K mg a) : FnOk P w K mg base (L2.CX P w) 1 a.f__law_corner a.d__law_corner ["_law_joints_here", "_law_corner_here"] (spM (gt a) 2 m__law_corner) :=
  ok_fd T.t__law_corner sc__law_corner rfl fun cdv A outer s H E hr => by
    have tk0 := takes_of (X := (cxOf (L2.CX P w) P w K mg base ["_law_joints_here", "_law_corner_here"] "_law_corner" (defScope s__law_corner) a.f__law_corner cdv A outer s H E)) (E := E) rfl rfl rfl rfl
    have po0 : PassesOwn (model P w) (cxOf (L2.CX P w) P w K mg base ["_law_joints_here", "_law_corner_here"] "_law_corner" (defScope s__law_corner) a.f__law_corner cdv A outer s H E).A (cxOf (L2.CX P w) P w K mg base ["_law_joints_here", "_law_corner_here"] "_law_corner" (defScope s__law_corner) a.f__law_corner cdv A outer s H E).env (cxOf (L2.CX P w) P w K mg base ["_law_joints_here", "_law_corner_here"] "_law_corner" (defScope s__law_corner) a.f__law_corner cdv A outer s H E).xe := passes_of rfl
    exact ⟨_, (dss_one (z_ret (x_ix rfl (x_ix rfl (de_var 0) (x_op op_fdivX prim_fdv (de_var 1) x_int)) (x_op op_modN prim_fmd (de_var 1) x_int))))⟩

def lb__law_motion_0 : MS := (sseq (sasg (kCall m__law_corner (aCons (mvar 0) (aCons (mvar 5) aNil))) (gtm 2 (gcn (gnm 8) (gcn (gnm 9) gnl)))) (sseq (sasg (kIf (kB (kOp eqA (kOp fmdI (mvar 5) (kC (.int 2))) (kC (.int 0)))) (kC (.int 1)) (kUn negI (kC (.int 1)))) (gnm 7)) (spar3 2 3 4 (aCons (kOp addIL (mvar 2) (kOp mulI (mvar 7) (mvar 6))) (aCons (kOp addIL (mvar 3) (kOp mulI (kOp mulI (mvar 7) (mvar 6)) (mvar 9))) (aCons (kOp subI (mvar 4) (kOp mulI (kOp mulI (mvar 7) (mvar 6)) (mvar 8))) aNil))))))
def b__law_motion_0 : MS := (sasg (kCall tupD (aCons (kC (.int 0)) (aCons (kC (.int 0)) (aCons (kC (.int 0)) aNil)))) (gtm 3 (gcn (gnm 2) (gcn (gnm 3) (gcn (gnm 4) gnl)))))
def b__law_motion_1 : MS := (sfor (iN (aCons (mvar 1) aNil)) (gtm 2 (gcn (gnm 5) (gcn (gnm 6) gnl))) lb__law_motion_0)
def b__law_motion_2 : MS := (zRet (kCall tupD (aCons (mvar 2) (aCons (mvar 3) (aCons (mvar 4) aNil)))))
def b__law_motion : MS := (sseq b__law_motion_0 (sseq b__law_motion_1 b__law_motion_2))
def m__law_motion : List D → M D := mdef 10 b__law_motion
theorem ok__law_motion (T : Txt K mg a) : FnOk P w K mg base (L2.CX P w) 2 a.f__law_motion a.d__law_motion ["_law_joints_here", "_law_numbers_here"] (spM (gt a) 2 m__law_motion) :=
  ok_fd T.t__law_motion sc__law_motion rfl fun cdv A outer s H E hr => by
    have tk0 := takes_of (X := (cxOf (L2.CX P w) P w K mg base ["_law_joints_here", "_law_numbers_here", "_law_turn", "_law_across", "_law_up", "_law_corner_here", "_law_number", "_law_side", "_law_x", "_law_y"] "_law_motion" (defScope s__law_motion) a.f__law_motion cdv A outer s H E)) (E := E) rfl rfl rfl rfl
    have po0 : PassesOwn (model P w) (cxOf (L2.CX P w) P w K mg base ["_law_joints_here", "_law_numbers_here", "_law_turn", "_law_across", "_law_up", "_law_corner_here", "_law_number", "_law_side", "_law_x", "_law_y"] "_law_motion" (defScope s__law_motion) a.f__law_motion cdv A outer s H E).A (cxOf (L2.CX P w) P w K mg base ["_law_joints_here", "_law_numbers_here", "_law_turn", "_law_across", "_law_up", "_law_corner_here", "_law_number", "_law_side", "_law_x", "_law_y"] "_law_motion" (defScope s__law_motion) a.f__law_motion cdv A outer s H E).env (cxOf (L2.CX P w) P w K mg base ["_law_joints_here", "_law_numbers_here", "_law_turn", "_law_across", "_law_up", "_law_corner_here", "_law_number", "_law_side", "_law_x", "_law_y"] "_law_motion" (defScope s__law_motion) a.f__law_motion cdv A outer s H E).xe := passes_of rfl
    exact ⟨_, (dss_cons (ds_asg (vs := [2, 3, 4]) (x_tup (a_cons x_int (a_cons x_int (a_cons x_int a_nil)))) (g_tup rfl rfl (g_cons (dg_name (i := 2) (by decide) sc__law_motion.nd) (g_cons (dg_name (i := 3) (by decide) sc__law_motion.nd) (g_cons (dg_name (i := 4) (by decide) sc__law_motion.nd) g_nil))))) (dss_cons (ds_for (vs := [5, 6]) po0 rfl (i_enum rfl T.n_enumerate (a_cons (de_var 1) a_nil)) (g_tup rfl rfl (g_cons (dg_name (i := 5) (by decide) sc__law_motion.nd) (g_cons (dg_name (i := 6) (by decide) sc__law_motion.nd) g_nil))) (dss_cons (ds_asg (vs := [8, 9]) (x_call (ok__law_corner T) (hr.mono (by decide)) tk0 T.m__law_corner T.t__law_corner.kp T.b__law_corner (a_cons (de_var 0) (a_cons (de_var 5) a_nil)) (l_cons (l_cons l_nil))) (g_tup rfl rfl (g_cons (dg_name (i := 8) (by decide) sc__law_motion.nd) (g_cons (dg_name (i := 9) (by decide) sc__law_motion.nd) g_nil)))) (dss_cons (ds_set (i := 7) sc__law_motion.nd (x_ifExp (q_cmp (op_eqA rfl hr.units) prim_eq (x_op op_modN prim_fmd (de_var 5) x_int) x_int) x_int (x_un un_neg prim_neg x_int))) (dss_one (ds_par3 (i := 2) (j := 3) (l := 4) rfl sc__law_motion.nd rfl rfl rfl (by decide) (by decide) (by decide) rfl rfl rfl (a_cons (x_op (op_add.or op_cat) prim_addIL (de_var 2) (x_op op_mulX prim_mul (de_var 7) (de_var 6))) (a_cons (x_op (op_add.or op_cat) prim_addIL (de_var 3) (x_op op_mulX prim_mul (x_op op_mulX prim_mul (de_var 7) (de_var 6)) (de_var 9))) (a_cons (x_op op_sub prim_sub (de_var 4) (x_op op_mulX prim_mul (x_op op_mulX prim_mul (de_var 7) (de_var 6)) (de_var 8))) a_nil)))))))) (dss_one (z_ret (x_tup (a_cons (de_var 2) (a_cons (de_var 3) (a_cons (de_var 4) a_nil))))))))⟩

def b__law_at : MS := (zRet (kCall tupD (aCons (kOp subI (kOp itemD (mvar 0) (kC (.int 1))) (kOp mulI (kOp itemD (mvar 0) (kC (.int 0))) (kOp itemD (mvar 1) (kC (.int 1))))) (aCons (kOp addIL (kOp itemD (mvar 0) (kC (.int 2))) (kOp mulI (kOp itemD (mvar 0) (kC (.int 0))) (kOp itemD (mvar 1) (kC (.int 0))))) aNil))))
def m__law_at : List D → M D := mdef 2 b__law_at
theorem ok__law_at (T : Txt K mg a) : FnOk P w K mg base (L2.CX P w) 1 a.f__law_at a.d__law_at ["_law_motion_here", "_law_point"] (spM (gt a) 2 m__law_at) :=
  ok_fd T.t__law_at sc__law_at rfl fun cdv A outer s H E hr => by
    have tk0 := takes_of (X := (cxOf (L2.CX P w) P w K mg base ["_law_motion_here", "_law_point"] "_law_at" (defScope s__law_at) a.f__law_at cdv A outer s H E)) (E := E) rfl rfl rfl rfl
    have po0 : PassesOwn (model P w) (cxOf (L2.CX P w) P w K mg base ["_law_motion_here", "_law_point"] "_law_at" (defScope s__law_at) a.f__law_at cdv A outer s H E).A (cxOf (L2.CX P w) P w K mg base ["_law_motion_here", "_law_point"] "_law_at" (defScope s__law_at) a.f__law_at cdv A outer s H E).env (cxOf (L2.CX P w) P w K mg base ["_law_motion_here", "_law_point"] "_law_at" (defScope s__law_at) a.f__law_at cdv A outer s H E).xe := passes_of rfl
    exact ⟨_, (dss_one (z_ret (x_tup (a_cons (x_op op_sub prim_sub (x_ix rfl (de_var 0) x_int) (x_op op_mulX prim_mul (x_ix rfl (de_var 0) x_int) (x_ix rfl (de_var 1) x_int))) (a_cons (x_op (op_add.or op_cat) prim_addIL (x_ix rfl (de_var 0) x_int) (x_op op_mulX prim_mul (x_ix rfl (de_var 0) x_int) (x_ix rfl (de_var 1) x_int))) a_nil)))))⟩

def b__law_joint_opens_0 : MS := (sasg (kOp itemD (mvar 0) (mvar 1)) (gtm 2 (gcn (gnm 7) (gcn (gnm 8) gnl))))
def b__law_joint_opens_1 : MS := (spar 9 10 (aCons (kOp itemD (mvar 2) (kOp mulI (kC (.int 2)) (mvar 1))) (aCons (kOp itemD (mvar 2) (kOp addIL (kOp mulI (kC (.int 2)) (mvar 1)) (kC (.int 1)))) aNil)))
def b__law_joint_opens_2 : MS := (sasg (kCall tupD (aCons (kOp subI (kOp itemD (mvar 3) (kC (.int 0))) (kOp itemD (mvar 4) (kC (.int 0)))) (aCons (kOp subI (kOp itemD (mvar 3) (kC (.int 1))) (kOp itemD (mvar 4) (kC (.int 1)))) (aCons (kOp subI (kOp itemD (mvar 3) (kC (.int 2))) (kOp itemD (mvar 4) (kC (.int 2)))) aNil)))) (gnm 5))
def b__law_joint_opens_3 : MS := (zIf (kB (kOp neA (mvar 5) (kCall m__law_motion (aCons (kCall lstD (aCons (kOp itemD (mvar 0) (mvar 1)) aNil)) (aCons (kCall lstD (aCons (mvar 9) (aCons (mvar 10) aNil))) aNil))))) (zRet (kC (.bl false))) zNx)
def b__law_joint_opens_4 : MS := (zIf (kAnd (kB (kOp eqA (mvar 9) (kC (.int 0)))) (kB (kOp eqA (mvar 10) (kC (.int 0))))) (zRet (kOp eqA (mvar 5) (kCall tupD (aCons (kC (.int 0)) (aCons (kC (.int 0)) (aCons (kC (.int 0)) aNil)))))) zNx)
def b__law_joint_opens_5 : MS := (sasg (kCall tupD (aCons (kOp subI (kOp itemD (mvar 8) (kC (.int 0))) (kOp itemD (mvar 7) (kC (.int 0)))) (aCons (kOp subI (kOp itemD (mvar 8) (kC (.int 1))) (kOp itemD (mvar 7) (kC (.int 1)))) aNil))) (gnm 6))
def b__law_joint_opens_6 : MS := (sasg (kIf (kB (kOp eqA (mvar 10) (kC (.int 0)))) (kCall tupD (aCons (mvar 7) (aCons (mvar 8) aNil))) (kCall tupD (aCons (mvar 8) (aCons (mvar 7) aNil)))) (gtm 2 (gcn (gnm 11) (gcn (gnm 12) gnl))))
def b__law_joint_opens_7 : MS := (zIf (kOr (kB (kOp eqA (mvar 9) (kC (.int 0)))) (kB (kOp eqA (mvar 10) (kC (.int 0))))) (sseq (zIf (kB (kOp neA (kCall m__law_at (aCons (mvar 3) (aCons (mvar 11) aNil))) (kCall m__law_at (aCons (mvar 4) (aCons (mvar 11) aNil))))) (zRet (kC (.bl false))) zNx) (sseq (sasg (kCall m__law_at (aCons (mvar 5) (aCons (mvar 12) aNil))) (gnm 13)) (zRet (kAndV (kOp ltI (kOp subI (kOp mulI (kOp itemD (mvar 13) (kC (.int 0))) (kOp itemD (mvar 6) (kC (.int 1)))) (kOp mulI (kOp itemD (mvar 13) (kC (.int 1))) (kOp itemD (mvar 6) (kC (.int 0))))) (kC (.int 0))) (kOp eqA (kOp addIL (kOp mulI (kOp itemD (mvar 13) (kC (.int 0))) (kOp itemD (mvar 6) (kC (.int 0)))) (kOp mulI (kOp itemD (mvar 13) (kC (.int 1))) (kOp itemD (mvar 6) (kC (.int 1))))) (kC (.int 0))))))) zNx)
def b__law_joint_opens_8 : MS := (zRet (kC (.bl true)))
def b__law_joint_opens : MS := (sseq b__law_joint_opens_0 (sseq b__law_joint_opens_1 (sseq b__law_joint_opens_2 (sseq b__law_joint_opens_3 (sseq b__law_joint_opens_4 (sseq b__law_joint_opens_5 (sseq b__law_joint_opens_6 (sseq b__law_joint_opens_7 b__law_joint_opens_8))))))))
def m__law_joint_opens : List D → M D := mdef 14 b__law_joint_opens
theorem ok__law_joint_opens (T : Txt K mg a) : FnOk P w K mg base (L2.CX P w) 3 a.f__law_joint_opens a.d__law_joint_opens ["_law_joints_here", "_law_joint_here", "_law_numbers_here", "_law_before", "_law_behind"] (spM (gt a) 5 m__law_joint_opens) :=
  ok_fd T.t__law_joint_opens sc__law_joint_opens rfl fun cdv A outer s H E hr => by
    have tk0 := takes_of (X := (cxOf (L2.CX P w) P w K mg base ["_law_joints_here", "_law_joint_here", "_law_numbers_here", "_law_before", "_law_behind", "_law_near", "_law_wide", "_law_inner", "_law_outer", "_law_one", "_law_other", "_law_hinge", "_law_far", "_law_speed"] "_law_joint_opens" (defScope s__law_joint_opens) a.f__law_joint_opens cdv A outer s H E)) (E := E) rfl rfl rfl rfl
    have po0 : PassesOwn (model P w) (cxOf (L2.CX P w) P w K mg base ["_law_joints_here", "_law_joint_here", "_law_numbers_here", "_law_before", "_law_behind", "_law_near", "_law_wide", "_law_inner", "_law_outer", "_law_one", "_law_other", "_law_hinge", "_law_far", "_law_speed"] "_law_joint_opens" (defScope s__law_joint_opens) a.f__law_joint_opens cdv A outer s H E).A (cxOf (L2.CX P w) P w K mg base ["_law_joints_here", "_law_joint_here", "_law_numbers_here", "_law_before", "_law_behind", "_law_near", "_law_wide", "_law_inner", "_law_outer", "_law_one", "_law_other", "_law_hinge", "_law_far", "_law_speed"] "_law_joint_opens" (defScope s__law_joint_opens) a.f__law_joint_opens cdv A outer s H E).env (cxOf (L2.CX P w) P w K mg base ["_law_joints_here", "_law_joint_here", "_law_numbers_here", "_law_before", "_law_behind", "_law_near", "_law_wide", "_law_inner", "_law_outer", "_law_one", "_law_other", "_law_hinge", "_law_far", "_law_speed"] "_law_joint_opens" (defScope s__law_joint_opens) a.f__law_joint_opens cdv A outer s H E).xe := passes_of rfl
    exact ⟨_, (dss_cons (ds_asg (vs := [7, 8]) (x_ix rfl (de_var 0) (de_var 1)) (g_tup rfl rfl (g_cons (dg_name (i := 7) (by decide) sc__law_joint_opens.nd) (g_cons (dg_name (i := 8) (by decide) sc__law_joint_opens.nd) g_nil)))) (dss_cons (ds_par (i := 9) (j := 10) rfl sc__law_joint_opens.nd rfl rfl (by decide) rfl rfl (a_cons (x_ix rfl (de_var 2) (x_op op_mulX prim_mul x_int (de_var 1))) (a_cons (x_ix rfl (de_var 2) (x_op (op_add.or op_cat) prim_addIL (x_op op_mulX prim_mul x_int (de_var 1)) x_int)) a_nil))) (dss_cons (ds_set (i := 5) sc__law_joint_opens.nd (x_tup (a_cons (x_op op_sub prim_sub (x_ix rfl (de_var 3) x_int) (x_ix rfl (de_var 4) x_int)) (a_cons (x_op op_sub prim_sub (x_ix rfl (de_var 3) x_int) (x_ix rfl (de_var 4) x_int)) (a_cons (x_op op_sub prim_sub (x_ix rfl (de_var 3) x_int) (x_ix rfl (de_var 4) x_int)) a_nil))))) (dss_cons (z_if (q_cmp (op_neA rfl hr.units) prim_ne (de_var 5) (x_call (ok__law_motion T) (hr.mono (by decide)) tk0 T.m__law_motion T.t__law_motion.kp T.b__law_motion (a_cons (x_lst (a_cons (x_ix rfl (de_var 0) (de_var 1)) a_nil)) (a_cons (x_lst (a_cons (de_var 9) (a_cons (de_var 10) a_nil))) a_nil)) (l_cons (l_cons l_nil)))) (dss_one (z_ret x_bl)) z_nil) (dss_cons (z_if (dt_w (w_and (q_cmp (op_eqA rfl hr.units) prim_eq (de_var 9) x_int) (w_and1 (q_cmp (op_eqA rfl hr.units) prim_eq (de_var 10) x_int)))) (dss_one (z_ret (x_cmp (op_eqA rfl hr.units) prim_eq (de_var 5) (x_tup (a_cons x_int (a_cons x_int (a_cons x_int a_nil))))))) z_nil) (dss_cons (ds_set (i := 6) sc__law_joint_opens.nd (x_tup (a_cons (x_op op_sub prim_sub (x_ix rfl (de_var 8) x_int) (x_ix rfl (de_var 7) x_int)) (a_cons (x_op op_sub prim_sub (x_ix rfl (de_var 8) x_int) (x_ix rfl (de_var 7) x_int)) a_nil)))) (dss_cons (ds_asg (vs := [11, 12]) (x_ifExp (q_cmp (op_eqA rfl hr.units) prim_eq (de_var 10) x_int) (x_tup (a_cons (de_var 7) (a_cons (de_var 8) a_nil))) (x_tup (a_cons (de_var 8) (a_cons (de_var 7) a_nil)))) (g_tup rfl rfl (g_cons (dg_name (i := 11) (by decide) sc__law_joint_opens.nd) (g_cons (dg_name (i := 12) (by decide) sc__law_joint_opens.nd) g_nil)))) (dss_cons (z_if (dt_w (w_or (q_cmp (op_eqA rfl hr.units) prim_eq (de_var 9) x_int) (w_or1 (q_cmp (op_eqA rfl hr.units) prim_eq (de_var 10) x_int)))) (dss_cons (z_if (q_cmp (op_neA rfl hr.units) prim_ne (x_call (ok__law_at T) (hr.mono (by decide)) tk0 T.m__law_at T.t__law_at.kp T.b__law_at (a_cons (de_var 3) (a_cons (de_var 11) a_nil)) (l_cons (l_cons l_nil))) (x_call (ok__law_at T) (hr.mono (by decide)) tk0 T.m__law_at T.t__law_at.kp T.b__law_at (a_cons (de_var 4) (a_cons (de_var 11) a_nil)) (l_cons (l_cons l_nil)))) (dss_one (z_ret x_bl)) z_nil) (dss_cons (ds_set (i := 13) sc__law_joint_opens.nd (x_call (ok__law_at T) (hr.mono (by decide)) tk0 T.m__law_at T.t__law_at.kp T.b__law_at (a_cons (de_var 5) (a_cons (de_var 12) a_nil)) (l_cons (l_cons l_nil)))) (dss_one (z_ret (x_and (x_cmp op_lt prim_lt (x_op op_sub prim_sub (x_op op_mulX prim_mul (x_ix rfl (de_var 13) x_int) (x_ix rfl (de_var 6) x_int)) (x_op op_mulX prim_mul (x_ix rfl (de_var 13) x_int) (x_ix rfl (de_var 6) x_int))) x_int) (de_one (x_cmp (op_eqA rfl hr.units) prim_eq (x_op (op_add.or op_cat) prim_addIL (x_op op_mulX prim_mul (x_ix rfl (de_var 13) x_int) (x_ix rfl (de_var 6) x_int)) (x_op op_mulX prim_mul (x_ix rfl (de_var 13) x_int) (x_ix rfl (de_var 6) x_int))) x_int))))))) z_nil) (dss_one (z_ret x_bl))))))))))⟩

def lb__law_all_0 : MS := (sseq (sasg (kOp addIL (kOp repL' (kCall lstD (aCons (kC (.int 0)) aNil)) (kOp addIL (kOp mulI (kC (.int 2)) (mvar 5)) (kC (.int 2)))) (kCall listD (aCons (kSl (mvar 1) (kPart (kOp addIL (kOp mulI (kC (.int 2)) (mvar 5)) (kC (.int 2)))) kNo) aNil))) (gnm 7)) (zIf (kB (kOp neA (kOp itemD (mvar 4) (kOp addIL (mvar 5) (kC (.int 1)))) (kCall m__law_motion (aCons (mvar 0) (aCons (mvar 7) aNil))))) (zRet (kC (.bl false))) zNx))
def lb__law_all_1 : MS := (zIf (kNot (kB (kCall m__law_joint_opens (aCons (mvar 0) (aCons (mvar 6) (aCons (mvar 1) (aCons (kOp itemD (mvar 4) (mvar 6)) (aCons (kOp itemD (mvar 4) (kOp addIL (mvar 6) (kC (.int 1)))) aNil)))))))) (zRet (kC (.bl false))) zNx)
def b__law_all_0 : MS := (zIf (kOr (kNot (kB (kCall (isiA ans) (aCons (mvar 2) (aCons (kC (.ty "tuple")) aNil))))) (kB (kOp neA (kCall lenD (aCons (mvar 2) aNil)) (kOp subI (kCall lenD (aCons (mvar 0) aNil)) (kC (.int 1)))))) (zRet (kC (.bl false))) zNx)
def b__law_all_1 : MS := (sasg (kOp addIL (kOp addIL (kCall lstD (aCons (kCall m__law_plain (aCons (mvar 3) aNil)) aNil)) (kLc (iT (mvar 2)) (gnm 8) (fun _ => mret true) (kCall m__law_plain (aCons (mvar 8) aNil)) [8])) (kCall lstD (aCons (kCall tupD (aCons (kC (.int 0)) (aCons (kC (.int 0)) (aCons (kC (.int 0)) aNil)))) aNil))) (gnm 4))
def b__law_all_2 : MS := (zIf (kOr (kB (kOp (inA false) (kC .non) (mvar 4))) (kB (kOp neA (kOp itemD (mvar 4) (kC (.int 0))) (kCall m__law_motion (aCons (mvar 0) (aCons (mvar 1) aNil)))))) (zRet (kC (.bl false))) zNx)
def b__law_all_3 : MS := (sfor (iR1 (aCons (kOp subI (kCall lenD (aCons (mvar 0) aNil)) (kC (.int 1))) aNil)) (gnm 5) lb__law_all_0)
def b__law_all_4 : MS := (sfor (iR1 (aCons (kCall lenD (aCons (mvar 0) aNil)) aNil)) (gnm 6) lb__law_all_1)
def b__law_all_5 : MS := (zRet (kC (.bl true)))
def b__law_all : MS := (sseq b__law_all_0 (sseq b__law_all_1 (sseq b__law_all_2 (sseq b__law_all_3 (sseq b__law_all_4 b__law_all_5)))))
def m__law_all : List D → M D := mdef 9 b__law_all
theorem ok__law_all (T : Txt K mg a) : FnOk P w K mg base (L2.CX P w) 4 a.f__law_all a.d__law_all ["_law_joints_here", "_law_numbers_here", "_law_told", "_law_ground"] (spM (gt a) 4 m__law_all) :=
  ok_fd T.t__law_all sc__law_all rfl fun cdv A outer s H E hr => by
    have tk0 := takes_of (X := (cxOf (L2.CX P w) P w K mg base ["_law_joints_here", "_law_numbers_here", "_law_told", "_law_ground", "_law_motions", "_law_stone", "_law_joint_here", "_law_rest", "_law_motion_here"] "_law_all" (defScope s__law_all) a.f__law_all cdv A outer s H E)) (E := E) rfl rfl rfl rfl
    have po0 : PassesOwn (model P w) (cxOf (L2.CX P w) P w K mg base ["_law_joints_here", "_law_numbers_here", "_law_told", "_law_ground", "_law_motions", "_law_stone", "_law_joint_here", "_law_rest", "_law_motion_here"] "_law_all" (defScope s__law_all) a.f__law_all cdv A outer s H E).A (cxOf (L2.CX P w) P w K mg base ["_law_joints_here", "_law_numbers_here", "_law_told", "_law_ground", "_law_motions", "_law_stone", "_law_joint_here", "_law_rest", "_law_motion_here"] "_law_all" (defScope s__law_all) a.f__law_all cdv A outer s H E).env (cxOf (L2.CX P w) P w K mg base ["_law_joints_here", "_law_numbers_here", "_law_told", "_law_ground", "_law_motions", "_law_stone", "_law_joint_here", "_law_rest", "_law_motion_here"] "_law_all" (defScope s__law_all) a.f__law_all cdv A outer s H E).xe := passes_of rfl
    exact ⟨_, (dss_cons (z_if (dt_w (w_or (q_not (q_val (x_callB (cr_isi rfl) (prim_isiA (isa T)) T.n_isinstance (by decide +kernel) (a_cons (de_var 2) (a_cons (x_ty (n := "tuple") T.n_tuple (by decide +kernel)) a_nil))))) (w_or1 (q_cmp (op_neA rfl hr.units) prim_ne (x_callB (cr_len rfl) (prim_len) T.n_len (by decide +kernel) (a_cons (de_var 2) a_nil)) (x_op op_sub prim_sub (x_callB (cr_len rfl) (prim_len) T.n_len (by decide +kernel) (a_cons (de_var 0) a_nil)) x_int))))) (dss_one (z_ret x_bl)) z_nil) (dss_cons (ds_set (i := 4) sc__law_all.nd (x_op (op_add.or op_cat) prim_addIL (x_op (op_add.or op_cat) prim_addIL (x_lst (a_cons (x_call (ok__law_plain T) (hr.mono (by decide)) tk0 T.m__law_plain T.t__law_plain.kp T.b__law_plain (a_cons (de_var 3) a_nil) (l_cons l_nil)) a_nil)) (x_lc [("_law_motion_here", 8)] rfl sc__law_all.nd (i_tup rfl (de_var 2)) (blkOk_by (N := ["_law_joints_here", "_law_numbers_here", "_law_told", "_law_ground", "_law_motions", "_law_stone", "_law_joint_here", "_law_rest", "_law_motion_here"]) (sc := defScope s__law_all) (by decide +kernel)) (fun _ _ _ _ _ => (dg_name (i := 8) (by decide) sc__law_all.nd)) (fun _ _ _ _ _ => pts_nil) run_yes (fun _ _ _ _ _ => (x_call (ok__law_plain T) (hr.mono (by decide)) takes0 T.m__law_plain T.t__law_plain.kp T.b__law_plain (a_cons (de_var 8) a_nil) (l_cons l_nil))))) (x_lst (a_cons (x_tup (a_cons x_int (a_cons x_int (a_cons x_int a_nil)))) a_nil)))) (dss_cons (z_if (dt_w (w_or (q_cmp (op_inA rfl (by have z := room_v hr; exact z)) prim_inA x_non (de_var 4)) (w_or1 (q_cmp (op_neA rfl hr.units) prim_ne (x_ix rfl (de_var 4) x_int) (x_call (ok__law_motion T) (hr.mono (by decide)) tk0 T.m__law_motion T.t__law_motion.kp T.b__law_motion (a_cons (de_var 0) (a_cons (de_var 1) a_nil)) (l_cons (l_cons l_nil))))))) (dss_one (z_ret x_bl)) z_nil) (dss_cons (ds_for (vs := [5]) po0 rfl (i_range1 T.n_range (a_cons (x_op op_sub prim_sub (x_callB (cr_len rfl) (prim_len) T.n_len (by decide +kernel) (a_cons (de_var 0) a_nil)) x_int) a_nil)) (dg_name (i := 5) (by decide) sc__law_all.nd) (dss_cons (ds_set (i := 7) sc__law_all.nd (x_op (op_add.or op_cat) prim_addIL (x_op op_rep prim_rep (x_lst (a_cons x_int a_nil)) (x_op (op_add.or op_cat) prim_addIL (x_op op_mulX prim_mul x_int (de_var 5)) x_int)) (x_callTy (cr_list rfl) prim_list T.n_list (by decide +kernel) (a_cons (x_sl rfl (de_var 1) (do_some (x_op (op_add.or op_cat) prim_addIL (x_op op_mulX prim_mul x_int (de_var 5)) x_int)) do_none) a_nil)))) (dss_one (z_if (q_cmp (op_neA rfl hr.units) prim_ne (x_ix rfl (de_var 4) (x_op (op_add.or op_cat) prim_addIL (de_var 5) x_int)) (x_call (ok__law_motion T) (hr.mono (by decide)) tk0 T.m__law_motion T.t__law_motion.kp T.b__law_motion (a_cons (de_var 0) (a_cons (de_var 7) a_nil)) (l_cons (l_cons l_nil)))) (dss_one (z_ret x_bl)) z_nil)))) (dss_cons (ds_for (vs := [6]) po0 rfl (i_range1 T.n_range (a_cons (x_callB (cr_len rfl) (prim_len) T.n_len (by decide +kernel) (a_cons (de_var 0) a_nil)) a_nil)) (dg_name (i := 6) (by decide) sc__law_all.nd) (dss_one (z_if (q_not (q_val (x_call (ok__law_joint_opens T) (hr.mono (by decide)) tk0 T.m__law_joint_opens T.t__law_joint_opens.kp T.b__law_joint_opens (a_cons (de_var 0) (a_cons (de_var 6) (a_cons (de_var 1) (a_cons (x_ix rfl (de_var 4) (de_var 6)) (a_cons (x_ix rfl (de_var 4) (x_op (op_add.or op_cat) prim_addIL (de_var 6) x_int)) a_nil))))) (l_cons (l_cons (l_cons (l_cons (l_cons l_nil)))))))) (dss_one (z_ret x_bl)) z_nil))) (dss_one (z_ret x_bl)))))))⟩

def b_Weights___mul__ : MS := (zRet (kMk 14 m_Weights___init__ [] (aCons (kLc (iT (kFld cf_numbers "numbers" (mvar 0))) (gnm 2) (fun _ => mret true) (kOp mulI (mvar 2) (mvar 1)) [2]) aNil)))
def m_Weights___mul__ : List D → M D := mdef 3 b_Weights___mul__
theorem ok_Weights___mul__ (T : Txt K mg a) : FnOk P w K mg base (L2.CX P w) 5 a.f_Weights___mul__ a.d_Weights___mul__ ["self", "other"] (spM (gt a) 2 m_Weights___mul__) :=
  ok_fd T.t_Weights___mul__ sc_Weights___mul__ rfl fun cdv A outer s H E hr => by
    have tk0 := takes_of (X := (cxOf (L2.CX P w) P w K mg base ["self", "other", "number"] "Weights.__mul__" (defScope s_Weights___mul__) a.f_Weights___mul__ cdv A outer s H E)) (E := E) rfl rfl rfl rfl
    have po0 : PassesOwn (model P w) (cxOf (L2.CX P w) P w K mg base ["self", "other", "number"] "Weights.__mul__" (defScope s_Weights___mul__) a.f_Weights___mul__ cdv A outer s H E).A (cxOf (L2.CX P w) P w K mg base ["self", "other", "number"] "Weights.__mul__" (defScope s_Weights___mul__) a.f_Weights___mul__ cdv A outer s H E).env (cxOf (L2.CX P w) P w K mg base ["self", "other", "number"] "Weights.__mul__" (defScope s_Weights___mul__) a.f_Weights___mul__ cdv A outer s H E).xe := passes_of rfl
    exact ⟨_, (dss_one (z_ret (x_mk T.mk_Weights (ok_Weights___init__ T) (hr.mono (by decide)) tk0 .nil (fun _ _ => rfl) (a_cons (x_lc [("number", 2)] rfl sc_Weights___mul__.nd (i_tup rfl (x_fld (fk_numbers T) (de_var 0))) (blkOk_by (N := ["self", "other", "number"]) (sc := defScope s_Weights___mul__) (by decide +kernel)) (fun _ _ _ _ _ => (dg_name (i := 2) (by decide) sc_Weights___mul__.nd)) (fun _ _ _ _ _ => pts_nil) run_yes (fun _ _ _ _ _ => (x_op op_mulX prim_mul (de_var 2) (de_var 1)))) a_nil) (l_cons l_nil) (by decide))))⟩

def b_Weights___add___0 : MS := (zIf (kB (kOp neA (kCall lenD (aCons (kFld cf_numbers "numbers" (mvar 0)) aNil)) (kCall lenD (aCons (kFld cf_numbers "numbers" (mvar 1)) aNil)))) (zRaise 3) zNx)
def b_Weights___add___1 : MS := (zRet (kMk 14 m_Weights___init__ [] (aCons (kLc (iZ (aCons (kFld cf_numbers "numbers" (mvar 0)) (aCons (kFld cf_numbers "numbers" (mvar 1)) aNil))) (gtm 2 (gcn (gnm 2) (gcn (gnm 3) gnl))) (fun _ => mret true) (kOp addIL (mvar 2) (mvar 3)) [2, 3]) aNil)))
def b_Weights___add__ : MS := (sseq b_Weights___add___0 b_Weights___add___1)
def m_Weights___add__ : List D → M D := mdef 4 b_Weights___add__
theorem ok_Weights___add__ (T : Txt K mg a) : FnOk P w K mg base (L2.CX P w) 5 a.f_Weights___add__ a.d_Weights___add__ ["self", "other"] (spM (gt a) 2 m_Weights___add__) :=
  ok_fd T.t_Weights___add__ sc_Weights___add__ rfl fun cdv A outer s H E hr => by
    have tk0 := takes_of (X := (cxOf (L2.CX P w) P w K mg base ["self", "other", "one", "two"] "Weights.__add__" (defScope s_Weights___add__) a.f_Weights___add__ cdv A outer s H E)) (E := E) rfl rfl rfl rfl
    have po0 : PassesOwn (model P w) (cxOf (L2.CX P w) P w K mg base ["self", "other", "one", "two"] "Weights.__add__" (defScope s_Weights___add__) a.f_Weights___add__ cdv A outer s H E).A (cxOf (L2.CX P w) P w K mg base ["self", "other", "one", "two"] "Weights.__add__" (defScope s_Weights___add__) a.f_Weights___add__ cdv A outer s H E).env (cxOf (L2.CX P w) P w K mg base ["self", "other", "one", "two"] "Weights.__add__" (defScope s_Weights___add__) a.f_Weights___add__ cdv A outer s H E).xe := passes_of rfl
    exact ⟨_, (dss_cons (z_if (q_cmp (op_neA rfl hr.units) prim_ne (x_callB (cr_len rfl) (prim_len) T.n_len (by decide +kernel) (a_cons (x_fld (fk_numbers T) (de_var 0)) a_nil)) (x_callB (cr_len rfl) (prim_len) T.n_len (by decide +kernel) (a_cons (x_fld (fk_numbers T) (de_var 1)) a_nil))) (dss_one (z_raise0 (cn := 3) rfl tk0 T.e_OtherSize sci_OtherSize rfl (hr.mono (by decide)))) z_nil) (dss_one (z_ret (x_mk T.mk_Weights (ok_Weights___init__ T) (hr.mono (by decide)) tk0 .nil (fun _ _ => rfl) (a_cons (x_lc [("one", 2), ("two", 3)] rfl sc_Weights___add__.nd (i_zip rfl T.n_zip (a_cons (x_fld (fk_numbers T) (de_var 0)) (a_cons (x_fld (fk_numbers T) (de_var 1)) a_nil))) (blkOk_by (N := ["self", "other", "one", "two"]) (sc := defScope s_Weights___add__) (by decide +kernel)) (fun _ _ _ _ _ => (g_tup rfl rfl (g_cons (dg_name (i := 2) (by decide) sc_Weights___add__.nd) (g_cons (dg_name (i := 3) (by decide) sc_Weights___add__.nd) g_nil)))) (fun _ _ _ _ _ => pts_nil) run_yes (fun _ _ _ _ _ => (x_op (op_add.or op_cat) prim_addIL (de_var 2) (de_var 3)))) a_nil) (l_cons l_nil) (by decide)))))⟩

theorem ok_Weights___iter__ (T : Txt K mg a) : FnN P w K mg base (L2.CX P w) 1 a.f_Weights___iter__ a.d_Weights___iter__ ["self"] (spIt K ((gt a).cls 14) "numbers") :=
  ok_itr T.t_Weights___iter__ sc_Weights___iter__ (fk_numbers T 14 rfl).1 (fk_numbers T 14 rfl).2 fun cdv A outer s H E hr => pss_one (ps_ret (pe_callB cr_iterT (by rfl) T.n_iter (by decide +kernel) (pa_cons (pe_fld (pv 0) rfl) pa_nil)))

def tb__law_other_size_0 : MS := (sasg (kIf (kB (mvar 2)) (kCall m_stone_motions (aCons (mvar 0) (aCons (mvar 1) aNil))) (kCall m_motion_of (aCons (mvar 0) (aCons (mvar 1) aNil)))) (gnm 5))
def hb__law_other_size_1 : MS := (sasg (kAndV (kCall (isiX ansE) (aCons (mvar 4) (aCons (kC (.cls 3)) aNil))) (kNotV (kCall (isiX ansE) (aCons (mvar 4) (aCons (kC (.cls 9)) aNil))))) (gnm 3))
def lb__law_other_size_2 : MS := (sseq (sasg (kC (.bl false)) (gnm 3)) (sseq (oA 4 mt_BridgeError (fun _ => false) tb__law_other_size_0 (fun _ => hb__law_other_size_1)) (zIf (kNot (kB (mvar 3))) (zRet (kC (.bl false))) zNx)))
def b__law_other_size_0 : MS := (sfor (iT (kCall tupD (aCons (kC (.bl false)) (aCons (kC (.bl true)) aNil)))) (gnm 2) lb__law_other_size_2)
def b__law_other_size_1 : MS := (zRet (kC (.bl true)))
def b__law_other_size : MS := (sseq b__law_other_size_0 b__law_other_size_1)
def m__law_other_size : List D → M D := mdef 6 b__law_other_size
theorem ok__law_other_size (T : Txt K mg a) : FnOk P w K mg base (L2.CX P w) 8 a.f__law_other_size a.d__law_other_size ["_law_bridge", "_law_weights"] (spM (gt a) 2 m__law_other_size) :=
  ok_fd T.t__law_other_size sc__law_other_size rfl fun cdv A outer s H E hr => by
    have tk0 := takes_of (X := (cxOf (L2.CX P w) P w K mg base ["_law_bridge", "_law_weights", "_law_asks_stones", "_law_refused", "e", "_law_told"] "_law_other_size" (defScope s__law_other_size) a.f__law_other_size cdv A outer s H E)) (E := E) rfl rfl rfl rfl
    have po0 : PassesOwn (model P w) (cxOf (L2.CX P w) P w K mg base ["_law_bridge", "_law_weights", "_law_asks_stones", "_law_refused", "e", "_law_told"] "_law_other_size" (defScope s__law_other_size) a.f__law_other_size cdv A outer s H E).A (cxOf (L2.CX P w) P w K mg base ["_law_bridge", "_law_weights", "_law_asks_stones", "_law_refused", "e", "_law_told"] "_law_other_size" (defScope s__law_other_size) a.f__law_other_size cdv A outer s H E).env (cxOf (L2.CX P w) P w K mg base ["_law_bridge", "_law_weights", "_law_asks_stones", "_law_refused", "e", "_law_told"] "_law_other_size" (defScope s__law_other_size) a.f__law_other_size cdv A outer s H E).xe := passes_of rfl
    exact ⟨_, (dss_cons (ds_for (vs := [2]) po0 rfl (i_tup rfl (x_tup (a_cons x_bl (a_cons x_bl a_nil)))) (dg_name (i := 2) (by decide) sc__law_other_size.nd) (dss_cons (ds_set (i := 3) sc__law_other_size.nd x_bl) (dss_cons (ds_try_as (i := 4) (mt := mt_BridgeError) (nf := fun _ => false) (hs1 := fun _ => hb__law_other_size_1) (mb := tb__law_other_size_0) rfl rfl rfl sc__law_other_size.nd rfl rfl ⟨by exact rfl, by decide, .inl T.m_BridgeError⟩ tk0 (hmt_BridgeError T) (fun W' pn xe tk' po' => ⟨_, (dss_one (ds_set (i := 5) sc__law_other_size.nd (x_ifExp (q_val (de_var 2)) (x_call (ok_stone_motions T) (hr.mono (by decide)) tk' T.m_stone_motions T.t_stone_motions.kp T.b_stone_motions (a_cons (de_var 0) (a_cons (de_var 1) a_nil)) (l_cons (l_cons l_nil))) (x_call (ok_motion_of T) (hr.mono (by decide)) tk' T.m_motion_of T.t_motion_of.kp T.b_motion_of (a_cons (de_var 0) (a_cons (de_var 1) a_nil)) (l_cons (l_cons l_nil))))))⟩) (fun a1 oe1 c1 dd1 pn1 hm _ hz hf => ⟨_, (dss_one (ds_set (i := 3) sc__law_other_size.nd (x_and (x_isX (ec_BridgeError T hm) hz hf (fun t b q => isaE T (.inr _) t b q) rfl T.n_isinstance (a_cons (de_var 4) (a_cons (x_cls (n := 3) T.m_OtherSize) a_nil))) (de_one (x_not (x_isX (ec_BridgeError T hm) hz hf (fun t b q => isaE T (.inr _) t b q) rfl T.n_isinstance (a_cons (de_var 4) (a_cons (x_cls (n := 9) T.m_BadWeights) a_nil))))))))⟩)).choose_spec (dss_one (z_if (q_not (q_val (de_var 3))) (dss_one (z_ret x_bl)) z_nil))))) (dss_one (z_ret x_bl)))⟩

end
end K13

set_option Elab.async false
set_option linter.all false
set_option maxRecDepth 100000
set_option maxHeartbeats 4000000
set_option autoImplicit false
namespace K13
open PySem L2 PySem.Spec PyProof.Rows Tw
noncomputable section
variable {P : Program} {w : World} {K : PySem.W.Frag} {mg : Str → Option Value} {base : Heap} {a : Ad}
theorem ok__law_bag (T : Txt K mg a) : FnOk P w K mg base (L2.CX P w) 1 a.f__law_bag a.d__law_bag ["_law_script", "_law_at_here"] (spBag K) := by
  refine T.t__law_bag.ok sc__law_bag (fun vs H Q E h => by obtain ⟨_, _, _, rfl, _⟩ := h; rfl) fun cdv A outer s H vs Q E hr h => ?_
  obtain ⟨l, ns, at', rfl, hl, h63, ha0, ha1, k⟩ := h
  refine ⟨_, pss_cons (ps_set (i := 2) sc__law_bag.nd rfl (.inl rfl) (pe_ifExp (pt_cmpR op_lt (pv 1) (pe_callB (cr_len rfl) (by rfl) T.n_len (by decide +kernel) (pa_cons (pv 0) pa_nil)) (by decide)) (pe_callB call_abs (by rfl) T.n_abs (by decide +kernel) (pa_cons (pe_ix (ix_list) (pv 0) (pv 1) (fun _ _ => rfl)) pa_nil)) pe_int))
    (pss_cons (ps_set (i := 3) sc__law_bag.nd rfl (.inl rfl) (pe_op op_add pe_int (pe_op op_mul pe_int (pv 1))))
    (pss_cons (ps_for (passes_of rfl) rfl (pi_enum (by rfl) T.n_enumerate (pa_cons (pe_slice sl_list (pv 0) po_none (po_some pe_int)) pa_nil)) (pg_tup rfl (pgs_cons (pg_name (i := 4) sc__law_bag.nd rfl (.inl rfl)) (pgs_cons (pg_name (i := 5) sc__law_bag.nd rfl (.inl rfl)) pgs_nil)))
      (pss_one (ps_set (i := 3) sc__law_bag.nd rfl (.inl rfl) (pe_op op_mod (pe_callTy call_int1 (by rfl) T.n_int (by decide +kernel) (pa_cons (pe_op op_add (pe_op op_add (pe_op op_mul (pv 3) pe_int) (pe_op op_mod (pe_callTy call_int1 (by rfl) T.n_int (by decide +kernel) (pa_cons (pv 5) pa_nil)) pe_int)) (pe_op op_mul pe_int (pv 4))) pa_nil)) pe_int))))
    (pss_one (ps_ret (pe_lst (pa_cons (pe_ifExp (pt_cmpR op_ge (pv 2) (pe_op op_pow pe_int pe_int) (by decide)) (pv 2) pe_int) (pa_cons (pv 3) (pa_cons pe_int pa_nil)))))))), ?_⟩
  refine ⟨_, rfl, _, rfl, l, _, rfl, .inl hl, _, _, rfl, rfl, _, rfl, ?_⟩
  have fin : ∀ (c : Int), (∀ (mix : Int) (v4 v5 : Option V) (H2 : Hp), Same H H2 → tRet (tLst (tCons (tIf (tTest (tOp (rI0 fun i j => .bl (decide (j ≤ i))) (tVar 2) (tOp (rI CPow fun i j => .int (i ^ j.toNat)) (tC (.int 10)) (tC (.int 18))))) (tVar 2) (tC (.int 0))) (tCons (tVar 3) (tCons (tC (.int 0)) tNil)))) { nx := fun _ H' => Q .non H', rt := Q } [some (.ref l), some (.int at'), some (.int c), some (.int mix), v4, v5] H2) := by
    intro c mix v4 v5 H2 sm
    refine ⟨_, rfl, _, _, rfl, rfl, by unfold CPow; decide, _, _, rfl, rfl, _, rfl, ?_⟩
    dsimp only
    split
    all_goals
      refine ⟨_, rfl, ?_⟩
      try refine ⟨_, rfl, ?_⟩
      refine ⟨(by decide : 3 ≤ sizeLine), fun q hq => ?_⟩
      exact k _ _ _ q (sm.trans fun b o e => by rw [upd_ne (ne_of_none e hq)]; exact e) (sm.free hq) upd_same
  have loop : ∀ (c : Int), (tAsg (tOp (rI0 fun i j => .int (i + j)) (tC (.int 70003)) (tOp (rI CMul fun i j => .int (i * j)) (tC (.int 6997)) (tVar 1))) (gName 3)) { nx := fun σ H1 => tFor (iEnum K (tCons (tSl (rSlL K) (tVar 0) tNoPart (tPart (tC (.int 63)))) tNil)) (gTup K 2 (gCons (gName 4) (gCons (gName 5) gNil))) (tAsg (tOp (rI (fun _ j => 0 < j) fun i j => .int (i % j)) (tCB (fun xs H Q => (∃ i, xs = [.int i] ∧ Q (.int i) H) ∨ ∃ k, xs = [.bl k] ∧ Q (.int (if k then 1 else 0)) H) (tCons (tOp (rI0 fun i j => .int (i + j)) (tOp (rI0 fun i j => .int (i + j)) (tOp (rI CMul fun i j => .int (i * j)) (tVar 3) (tC (.int 40014))) (tOp (rI (fun _ j => 0 < j) fun i j => .int (i % j)) (tCB (fun xs H Q => (∃ i, xs = [.int i] ∧ Q (.int i) H) ∨ ∃ k, xs = [.bl k] ∧ Q (.int (if k then 1 else 0)) H) (tCons (tVar 5) tNil)) (tC (.int 2147483543)))) (tOp (rI CMul fun i j => .int (i * j)) (tC (.int 101)) (tVar 4))) tNil)) (tC (.int 2147483563))) (gName 3)) { nx := fun σ H1 => tRet (tLst (tCons (tIf (tTest (tOp (rI0 fun i j => .bl (decide (j ≤ i))) (tVar 2) (tOp (rI CPow fun i j => .int (i ^ j.toNat)) (tC (.int 10)) (tC (.int 18))))) (tVar 2) (tC (.int 0))) (tCons (tVar 3) (tCons (tC (.int 0)) tNil)))) { nx := fun _ H' => Q .non H', rt := Q } σ H1, rt := Q } σ H1, rt := Q } [some (.ref l), some (.int at'), some (.int c), none, none, none] H := by
    intro c
    refine ⟨_, rfl, _, _, rfl, rfl, .inl ⟨by decide, by decide⟩, _, _, rfl, rfl, ?_⟩
    refine ⟨_, rfl, 63, rfl, l, _, rfl, hl, fun p hp => ⟨p, _, rfl, SqL.of upd_same, ?_⟩⟩
    refine ⟨fun i m σ H2 => ∃ mix v4 v5, σ = [some (.ref l), some (.int at'), some (.int c), some (.int mix), v4, v5] ∧ m + i = (cutV (ns.map V.int) none (some 63)).length ∧ Same (upd H p (.lst (cutV (ns.map V.int) none (some 63)))) H2, ⟨_, _, none, none, rfl, Nat.add_zero _, Same.refl _⟩, ?_⟩
    rintro i m σ H2 ⟨mix, v4, v5, rfl, hm, sm⟩
    have hp2 : H2 p = some (.lst (cutV (ns.map V.int) none (some 63))) := sm _ _ upd_same
    have sm0 : Same H H2 := Same.trans (fun b o e => by rw [upd_ne (ne_of_none e hp)]; exact e) sm
    by_cases hi : i < (cutV (ns.map V.int) none (some 63)).length
    · refine .inr ⟨⟨_, _, SqL.of hp2, List.getElem?_eq_getElem hi⟩, fun σ' H' => ∃ mix v4 v5, σ' = [some (.ref l), some (.int at'), some (.int c), some (.int mix), v4, v5] ∧ Same (upd H p (.lst (cutV (ns.map V.int) none (some 63)))) H', fun σ' H' h => ?_, ?_⟩
      · obtain ⟨mix', v4', v5', rfl, sm'⟩ := h
        exact ⟨m - 1, by omega, mix', v4', v5', rfl, by omega, sm'⟩
      · rintro x H' ⟨T', y, rfl, hT, rfl, hy⟩
        have hy1 := hy _ (SqL.of hp2)
        have hmem : y ∈ ns.map V.int := by
          have h1 := List.mem_of_getElem? hy1
          unfold cutV at h1
          exact List.mem_of_mem_drop (List.mem_of_mem_take h1)
        obtain ⟨n, _, rfl⟩ := List.mem_map.mp hmem
        refine ⟨T', _, rfl, SqT.of upd_same, rfl, ?_⟩
        refine ⟨_, _, rfl, _, _, rfl, rfl, ?_⟩
        refine ⟨_, rfl, _, _, rfl, rfl, .inr ⟨by decide, by decide⟩, _, rfl, .inl ⟨_, rfl, _, _, rfl, rfl, (by decide : (0 : Int) < 2147483543), _, _, rfl, rfl, _, rfl, _, _, rfl, rfl, .inl ⟨by decide, by decide⟩, _, _, rfl, rfl, .inl ⟨_, rfl, _, _, rfl, rfl, (by decide : (0 : Int) < 2147483563), ?_⟩⟩⟩
        exact ⟨_, _, _, rfl, sm.trans fun b o e => by rw [upd_ne (ne_of_none e hT)]; exact e⟩
    · exact .inl ⟨⟨_, SqL.of hp2, by omega⟩, fin c mix v4 v5 H2 sm0⟩
  dsimp only
  split
  · rename_i hlt
    have hlt' : at' < (ns.length : Nat) := by
      have := of_decide_eq_true hlt
      simpa using this
    obtain ⟨j, rfl⟩ := Int.eq_ofNat_of_zero_le ha0
    have hj : j < ns.length := by omega
    refine ⟨_, rfl, _, rfl, l, _, _, .int ns[j], rfl, rfl, hl, atI_nat (by rw [List.getElem?_map, List.getElem?_eq_getElem hj]; rfl), ns[j], rfl, ?_⟩
    exact loop _
  · exact loop _

def b_law_0 : MS := (sasg (kCall m__law_joints (aCons (mvar 1) (aCons (kC (.int 4)) aNil))) (gnm 2))
def b_law_1 : MS := (sasg (kOp mulI (kC (.int 2)) (kCall lenD (aCons (mvar 2) aNil))) (gnm 3))
def b_law_2 : MS := (sasg (kCall tupD (aCons (kCall m__law_numbers (aCons (mvar 1) (aCons (mvar 3) aNil))) (aCons (kCall m__law_numbers (aCons (mvar 1) (aCons (mvar 3) aNil))) (aCons (kCall m__law_of (aCons (mvar 1) (aCons (kCall lstD (aCons (kC (.int 0)) (aCons (kC (.int 1)) (aCons (kC (.int 2)) (aCons (kC (.int 7)) aNil))))) aNil))) aNil)))) (gtm 3 (gcn (gnm 6) (gcn (gnm 7) (gcn (gnm 8) gnl)))))
def b_law_3 : MS := (zIf (kB (kOp eqA (kCall m__law_take (aCons (mvar 1) (aCons (kC (.int 2)) aNil))) (kC (.int 0)))) (sseq (sasg (kCall m__law_take (aCons (mvar 1) (aCons (mvar 3) aNil))) (gnm 9)) (sasg (kLc (iR1 (aCons (mvar 3) aNil)) (gnm 15) (fun _ => mret true) (kIf (kB (kOp eqA (mvar 15) (mvar 9))) (kOp addIL (kC (.int 1)) (kOp itemD (mvar 6) (mvar 15))) (kC (.int 0))) [15]) (gnm 6))) zNx)
def b_law_4 : MS := (spar3 10 11 12 (aCons (kMk 12 m_Bridge___init__ [.non] (aCons (mvar 2) aNil)) (aCons (kMk 14 m_Weights___init__ [] (aCons (mvar 6) aNil)) (aCons (kMk 14 m_Weights___init__ [] (aCons (mvar 7) aNil)) aNil))))
def b_law_5 : MS := (sasg (kCall m_stone_motions (aCons (mvar 10) (aCons (mvar 11) aNil))) (gnm 4))
def b_law_6 : MS := (zIf (kNot (kB (kCall m__law_all (aCons (mvar 2) (aCons (mvar 6) (aCons (mvar 4) (aCons (kCall m_motion_of (aCons (mvar 10) (aCons (mvar 11) aNil))) aNil))))))) (zRet (kC (.bl false))) zNx)
def b_law_7 : MS := (zIf (kNot (kB (kCall m__law_all (aCons (mvar 2) (aCons (mvar 7) (aCons (kCall m_stone_motions (aCons (mvar 10) (aCons (mvar 12) aNil))) (aCons (kCall m_motion_of (aCons (mvar 10) (aCons (mvar 12) aNil))) aNil))))))) (zRet (kC (.bl false))) zNx)
def b_law_8 : MS := (sasg (kLc (iZ (aCons (mvar 6) (aCons (mvar 7) aNil))) (gtm 2 (gcn (gnm 16) (gcn (gnm 17) gnl))) (fun _ => mret true) (kOp addIL (kOp mulI (mvar 16) (mvar 8)) (mvar 17)) [16, 17]) (gnm 5))
def b_law_9 : MS := (zIf (kNot (kB (kCall m__law_all (aCons (mvar 2) (aCons (mvar 5) (aCons (kCall m_stone_motions (aCons (mvar 10) (aCons (kOp (ownX 14 m_Weights___add__) (kOp (ownI 14 m_Weights___mul__) (mvar 11) (mvar 8)) (mvar 12)) aNil))) (aCons (kCall m_motion_of (aCons (mvar 10) (aCons (kOp (ownX 14 m_Weights___add__) (kOp (ownI 14 m_Weights___mul__) (mvar 11) (mvar 8)) (mvar 12)) aNil))) aNil))))))) (zRet (kC (.bl false))) zNx)
def b_law_10 : MS := (zIf (kOr (kNot (kB (kCall m__law_all (aCons (mvar 2) (aCons (mvar 6) (aCons (mvar 4) (aCons (kCall m_motion_of (aCons (mvar 10) (aCons (mvar 11) aNil))) aNil))))))) (kOr (kB (kOp neA (kCall (listO 14 "numbers" m_Weights___len__) (aCons (mvar 11) aNil)) (mvar 6))) (kB (kOp neA (kCall (listO 14 "numbers" m_Weights___len__) (aCons (mvar 12) aNil)) (mvar 7))))) (zRet (kC (.bl false))) zNx)
def b_law_11 : MS := (spar 13 14 (aCons (kMk 14 m_Weights___init__ [] (aCons (kOp addIL (mvar 6) (kCall lstD (aCons (kC (.int 0)) (aCons (kC (.int 0)) aNil)))) aNil)) (aCons (kIf (kB (kOp gtI (mvar 3) (kC (.int 4)))) (kSl (mvar 6) (kPart (kC (.int 2))) kNo) (kOp addIL (mvar 6) (mvar 7))) aNil)))
def b_law_12 : MS := (zIf (kOr (kNot (kB (kCall m__law_other_size (aCons (mvar 10) (aCons (mvar 13) aNil))))) (kNot (kB (kCall m__law_other_size (aCons (mvar 10) (aCons (kMk 14 m_Weights___init__ [] (aCons (mvar 14) aNil)) aNil)))))) (zRet (kC (.bl false))) zNx)
def b_law_13 : MS := (zRet (kCall m__law_all (aCons (mvar 2) (aCons (kOp repL' (kCall lstD (aCons (kC (.int 0)) aNil)) (mvar 3)) (aCons (kCall m_stone_motions (aCons (mvar 10) (aCons (kMk 14 m_Weights___init__ [] (aCons (kOp repL' (kCall lstD (aCons (kC (.int 0)) aNil)) (mvar 3)) aNil)) aNil))) (aCons (kCall m_motion_of (aCons (mvar 10) (aCons (kOp (ownI 14 m_Weights___mul__) (mvar 11) (kC (.int 0))) aNil))) aNil))))))
def b_law : MS := (sseq b_law_0 (sseq b_law_1 (sseq b_law_2 (sseq b_law_3 (sseq b_law_4 (sseq b_law_5 (sseq b_law_6 (sseq b_law_7 (sseq b_law_8 (sseq b_law_9 (sseq b_law_10 (sseq b_law_11 (sseq b_law_12 b_law_13)))))))))))))
def ρ0 : Tw.Loc := [none, some .bag, none, none, none, none, none, none, none, none, none, none, none, none, none, none, none, none]
def spLaw (K : PySem.W.Frag) : Sp := fun vs H Q _ => ∃ (l : Addr) (ns : List Int), vs = [.ref l] ∧ SqL K H l (ns.map V.int) ∧ ns.length ≤ 63 ∧ ∀ H', Q (.bl true) H'
theorem ok_law (good : ∀ s, ∃ s', b_law ρ0 s = .ret (.bl true) s') (T : Txt K mg a) : FnG P w K mg base (L2.CX P w) 10 a.f_law a.d_law ["_law_script"] (spLaw K) := by
  refine fng_of T.t_law sc_law (fun vs H Q E h => by obtain ⟨_, _, rfl, _⟩ := h; rfl) fun cdv A outer s H vs Q E gd hr h => ?_
  obtain ⟨l, ns, rfl, hl, h63, k⟩ := h
  have tk0 := takes_of (X := (cxOf (L2.CX P w) P w K mg base ["_law_script", "_law_bag_here", "_law_joints_here", "_law_count", "_law_first", "_law_both", "_law_a", "_law_b", "_law_times", "_law_place", "_law_bridge", "_law_one", "_law_other", "_law_longer", "_law_shorter", "_law_k", "_law_x", "_law_y"] "law" (defScope s_law) a.f_law cdv A outer s H E)) (E := E) rfl rfl rfl rfl
  have po0 : PassesOwn (model P w) (cxOf (L2.CX P w) P w K mg base ["_law_script", "_law_bag_here", "_law_joints_here", "_law_count", "_law_first", "_law_both", "_law_a", "_law_b", "_law_times", "_law_place", "_law_bridge", "_law_one", "_law_other", "_law_longer", "_law_shorter", "_law_k", "_law_x", "_law_y"] "law" (defScope s_law) a.f_law cdv A outer s H E).A (cxOf (L2.CX P w) P w K mg base ["_law_script", "_law_bag_here", "_law_joints_here", "_law_count", "_law_first", "_law_both", "_law_a", "_law_b", "_law_times", "_law_place", "_law_bridge", "_law_one", "_law_other", "_law_longer", "_law_shorter", "_law_k", "_law_x", "_law_y"] "law" (defScope s_law) a.f_law cdv A outer s H E).env (cxOf (L2.CX P w) P w K mg base ["_law_script", "_law_bag_here", "_law_joints_here", "_law_count", "_law_first", "_law_both", "_law_a", "_law_b", "_law_times", "_law_place", "_law_bridge", "_law_one", "_law_other", "_law_longer", "_law_shorter", "_law_k", "_law_x", "_law_y"] "law" (defScope s_law) a.f_law cdv A outer s H E).xe := passes_of rfl
  have rest : ∃ t, DSs (gt a) (cxOf (L2.CX P w) P w K mg base ["_law_script", "_law_bag_here", "_law_joints_here", "_law_count", "_law_first", "_law_both", "_law_a", "_law_b", "_law_times", "_law_place", "_law_bridge", "_law_one", "_law_other", "_law_longer", "_law_shorter", "_law_k", "_law_x", "_law_y"] "law" (defScope s_law) a.f_law cdv A outer s H E) (fun c d _ H' => E c d H') ((defBody s_law).drop 1) t b_law := ⟨_, (dss_cons (ds_set (i := 2) sc_law.nd (x_call (ok__law_joints T) (hr.mono (by decide)) tk0 T.m__law_joints T.t__law_joints.kp T.b__law_joints (a_cons (de_var 1) (a_cons x_int a_nil)) (l_cons (l_cons l_nil)))) (dss_cons (ds_set (i := 3) sc_law.nd (x_op op_mulX prim_mul x_int (x_callB (cr_len rfl) (prim_len) T.n_len (by decide +kernel) (a_cons (de_var 2) a_nil)))) (dss_cons (ds_asg (vs := [6, 7, 8]) (x_tup (a_cons (x_call (ok__law_numbers T) (hr.mono (by decide)) tk0 T.m__law_numbers T.t__law_numbers.kp T.b__law_numbers (a_cons (de_var 1) (a_cons (de_var 3) a_nil)) (l_cons (l_cons l_nil))) (a_cons (x_call (ok__law_numbers T) (hr.mono (by decide)) tk0 T.m__law_numbers T.t__law_numbers.kp T.b__law_numbers (a_cons (de_var 1) (a_cons (de_var 3) a_nil)) (l_cons (l_cons l_nil))) (a_cons (x_call (ok__law_of T) (hr.mono (by decide)) tk0 T.m__law_of T.t__law_of.kp T.b__law_of (a_cons (de_var 1) (a_cons (x_lst (a_cons x_int (a_cons x_int (a_cons x_int (a_cons x_int a_nil))))) a_nil)) (l_cons (l_cons l_nil))) a_nil)))) (g_tup rfl rfl (g_cons (dg_name (i := 6) (by decide) sc_law.nd) (g_cons (dg_name (i := 7) (by decide) sc_law.nd) (g_cons (dg_name (i := 8) (by decide) sc_law.nd) g_nil))))) (dss_cons (z_if (q_cmp (op_eqA rfl hr.units) prim_eq (x_call (ok__law_take T) (hr.mono (by decide)) tk0 T.m__law_take T.t__law_take.kp T.b__law_take (a_cons (de_var 1) (a_cons x_int a_nil)) (l_cons (l_cons l_nil))) x_int) (dss_cons (ds_set (i := 9) sc_law.nd (x_call (ok__law_take T) (hr.mono (by decide)) tk0 T.m__law_take T.t__law_take.kp T.b__law_take (a_cons (de_var 1) (a_cons (de_var 3) a_nil)) (l_cons (l_cons l_nil)))) (dss_one (ds_set (i := 6) sc_law.nd (x_lc [("_law_k", 15)] rfl sc_law.nd (i_range1 T.n_range (a_cons (de_var 3) a_nil)) (blkOk_by (N := ["_law_script", "_law_bag_here", "_law_joints_here", "_law_count", "_law_first", "_law_both", "_law_a", "_law_b", "_law_times", "_law_place", "_law_bridge", "_law_one", "_law_other", "_law_longer", "_law_shorter", "_law_k", "_law_x", "_law_y"]) (sc := defScope s_law) (by decide +kernel)) (fun _ _ _ _ _ => (dg_name (i := 15) (by decide) sc_law.nd)) (fun _ _ _ _ _ => pts_nil) run_yes (fun _ _ _ _ _ => (x_ifExp (q_cmp (op_eqA rfl hr.units) prim_eq (de_var 15) (de_var 9)) (x_op (op_add.or op_cat) prim_addIL x_int (x_ix rfl (de_var 6) (de_var 15))) x_int)))))) z_nil) (dss_cons (ds_par3 (i := 10) (j := 11) (l := 12) rfl sc_law.nd rfl rfl rfl (by decide) (by decide) (by decide) rfl rfl rfl (a_cons (x_mk T.mk1_Bridge (ok_Bridge___init__ T) (hr.mono (by decide)) tk0 (T.bd1_Bridge___init__).choose_spec.1 (fun _ _ => ⟨_, _, rfl, rfl, rfl⟩) (a_cons (de_var 2) a_nil) (l_cons l_nil) (by decide)) (a_cons (x_mk T.mk_Weights (ok_Weights___init__ T) (hr.mono (by decide)) tk0 .nil (fun _ _ => rfl) (a_cons (de_var 6) a_nil) (l_cons l_nil) (by decide)) (a_cons (x_mk T.mk_Weights (ok_Weights___init__ T) (hr.mono (by decide)) tk0 .nil (fun _ _ => rfl) (a_cons (de_var 7) a_nil) (l_cons l_nil) (by decide)) a_nil)))) (dss_cons (ds_set (i := 4) sc_law.nd (x_call (ok_stone_motions T) (hr.mono (by decide)) tk0 T.m_stone_motions T.t_stone_motions.kp T.b_stone_motions (a_cons (de_var 10) (a_cons (de_var 11) a_nil)) (l_cons (l_cons l_nil)))) (dss_cons (z_if (q_not (q_val (x_call (ok__law_all T) (hr.mono (by decide)) tk0 T.m__law_all T.t__law_all.kp T.b__law_all (a_cons (de_var 2) (a_cons (de_var 6) (a_cons (de_var 4) (a_cons (x_call (ok_motion_of T) (hr.mono (by decide)) tk0 T.m_motion_of T.t_motion_of.kp T.b_motion_of (a_cons (de_var 10) (a_cons (de_var 11) a_nil)) (l_cons (l_cons l_nil))) a_nil)))) (l_cons (l_cons (l_cons (l_cons l_nil))))))) (dss_one (z_ret x_bl)) z_nil) (dss_cons (z_if (q_not (q_val (x_call (ok__law_all T) (hr.mono (by decide)) tk0 T.m__law_all T.t__law_all.kp T.b__law_all (a_cons (de_var 2) (a_cons (de_var 7) (a_cons (x_call (ok_stone_motions T) (hr.mono (by decide)) tk0 T.m_stone_motions T.t_stone_motions.kp T.b_stone_motions (a_cons (de_var 10) (a_cons (de_var 12) a_nil)) (l_cons (l_cons l_nil))) (a_cons (x_call (ok_motion_of T) (hr.mono (by decide)) tk0 T.m_motion_of T.t_motion_of.kp T.b_motion_of (a_cons (de_var 10) (a_cons (de_var 12) a_nil)) (l_cons (l_cons l_nil))) a_nil)))) (l_cons (l_cons (l_cons (l_cons l_nil))))))) (dss_one (z_ret x_bl)) z_nil) (dss_cons (z_setLc (i := 5) [("_law_x", 16), ("_law_y", 17)] rfl sc_law.nd rfl rfl (sw_true rfl rfl rfl (by decide +kernel)) (i_zip rfl T.n_zip (a_cons (de_var 6) (a_cons (de_var 7) a_nil))) (blkOk_by (N := ["_law_script", "_law_bag_here", "_law_joints_here", "_law_count", "_law_first", "_law_both", "_law_a", "_law_b", "_law_times", "_law_place", "_law_bridge", "_law_one", "_law_other", "_law_longer", "_law_shorter", "_law_k", "_law_x", "_law_y"]) (sc := defScope s_law) (by decide +kernel)) (fun _ _ _ _ _ => (g_tup rfl rfl (g_cons (dg_name (i := 16) (by decide) sc_law.nd) (g_cons (dg_name (i := 17) (by decide) sc_law.nd) g_nil)))) (fun _ _ _ _ _ => pts_nil) run_yes (fun _ _ _ _ _ => (x_op (op_add.or op_cat) prim_addIL (x_op op_mulX prim_mul (de_var 16) (de_var 8)) (de_var 17)))) (dss_cons (z_if (q_not (q_val (x_call (ok__law_all T) (hr.mono (by decide)) tk0 T.m__law_all T.t__law_all.kp T.b__law_all (a_cons (de_var 2) (a_cons (de_var 5) (a_cons (x_call (ok_stone_motions T) (hr.mono (by decide)) tk0 T.m_stone_motions T.t_stone_motions.kp T.b_stone_motions (a_cons (de_var 10) (a_cons (x_own T.op_Weights___add__ (ok_Weights___add__ T) (hr.mono (by decide)) tk0 (x_op (op_ownI T.op_Weights___mul__ T.oi_Weights___mul__ (ok_Weights___mul__ T) (hr.mono (by decide))) prim_ownI (de_var 11) (de_var 8)) (de_var 12)) a_nil)) (l_cons (l_cons l_nil))) (a_cons (x_call (ok_motion_of T) (hr.mono (by decide)) tk0 T.m_motion_of T.t_motion_of.kp T.b_motion_of (a_cons (de_var 10) (a_cons (x_own T.op_Weights___add__ (ok_Weights___add__ T) (hr.mono (by decide)) tk0 (x_op (op_ownI T.op_Weights___mul__ T.oi_Weights___mul__ (ok_Weights___mul__ T) (hr.mono (by decide))) prim_ownI (de_var 11) (de_var 8)) (de_var 12)) a_nil)) (l_cons (l_cons l_nil))) a_nil)))) (l_cons (l_cons (l_cons (l_cons l_nil))))))) (dss_one (z_ret x_bl)) z_nil) (dss_cons (z_if (dt_w (w_or (q_not (q_val (x_call (ok__law_all T) (hr.mono (by decide)) tk0 T.m__law_all T.t__law_all.kp T.b__law_all (a_cons (de_var 2) (a_cons (de_var 6) (a_cons (de_var 4) (a_cons (x_call (ok_motion_of T) (hr.mono (by decide)) tk0 T.m_motion_of T.t_motion_of.kp T.b_motion_of (a_cons (de_var 10) (a_cons (de_var 11) a_nil)) (l_cons (l_cons l_nil))) a_nil)))) (l_cons (l_cons (l_cons (l_cons l_nil))))))) (w_or (q_cmp (op_neA rfl hr.units) prim_ne (x_callTy (cr_listO T.ow_Weights___iter__ (ok_Weights___iter__ T) T.ow_Weights___len__ (ok_Weights___len__ T) rfl (hr.mono (by decide))) prim_listO T.n_list (by decide +kernel) (a_cons (de_var 11) a_nil)) (de_var 6)) (w_or1 (q_cmp (op_neA rfl hr.units) prim_ne (x_callTy (cr_listO T.ow_Weights___iter__ (ok_Weights___iter__ T) T.ow_Weights___len__ (ok_Weights___len__ T) rfl (hr.mono (by decide))) prim_listO T.n_list (by decide +kernel) (a_cons (de_var 12) a_nil)) (de_var 7)))))) (dss_one (z_ret x_bl)) z_nil) (dss_cons (ds_par (i := 13) (j := 14) rfl sc_law.nd rfl rfl (by decide) rfl rfl (a_cons (x_mk T.mk_Weights (ok_Weights___init__ T) (hr.mono (by decide)) tk0 .nil (fun _ _ => rfl) (a_cons (x_op (op_add.or op_cat) prim_addIL (de_var 6) (x_lst (a_cons x_int (a_cons x_int a_nil)))) a_nil) (l_cons l_nil) (by decide)) (a_cons (x_ifExp (q_cmp op_gt prim_gt (de_var 3) x_int) (x_sl rfl (de_var 6) (do_some x_int) do_none) (x_op (op_add.or op_cat) prim_addIL (de_var 6) (de_var 7))) a_nil))) (dss_cons (z_if (dt_w (w_or (q_not (q_val (x_call (ok__law_other_size T) (hr.mono (by decide)) tk0 T.m__law_other_size T.t__law_other_size.kp T.b__law_other_size (a_cons (de_var 10) (a_cons (de_var 13) a_nil)) (l_cons (l_cons l_nil))))) (w_or1 (q_not (q_val (x_call (ok__law_other_size T) (hr.mono (by decide)) tk0 T.m__law_other_size T.t__law_other_size.kp T.b__law_other_size (a_cons (de_var 10) (a_cons (x_mk T.mk_Weights (ok_Weights___init__ T) (hr.mono (by decide)) tk0 .nil (fun _ _ => rfl) (a_cons (de_var 14) a_nil) (l_cons l_nil) (by decide)) a_nil)) (l_cons (l_cons l_nil)))))))) (dss_one (z_ret x_bl)) z_nil) (dss_one (z_ret (x_call (ok__law_all T) (hr.mono (by decide)) tk0 T.m__law_all T.t__law_all.kp T.b__law_all (a_cons (de_var 2) (a_cons (x_op op_rep prim_rep (x_lst (a_cons x_int a_nil)) (de_var 3)) (a_cons (x_call (ok_stone_motions T) (hr.mono (by decide)) tk0 T.m_stone_motions T.t_stone_motions.kp T.b_stone_motions (a_cons (de_var 10) (a_cons (x_mk T.mk_Weights (ok_Weights___init__ T) (hr.mono (by decide)) tk0 .nil (fun _ _ => rfl) (a_cons (x_op op_rep prim_rep (x_lst (a_cons x_int a_nil)) (de_var 3)) a_nil) (l_cons l_nil) (by decide)) a_nil)) (l_cons (l_cons l_nil))) (a_cons (x_call (ok_motion_of T) (hr.mono (by decide)) tk0 T.m_motion_of T.t_motion_of.kp T.b_motion_of (a_cons (de_var 10) (a_cons (x_op (op_ownI T.op_Weights___mul__ T.oi_Weights___mul__ (ok_Weights___mul__ T) (hr.mono (by decide))) prim_ownI (de_var 11) x_int) a_nil)) (l_cons (l_cons l_nil))) a_nil)))) (l_cons (l_cons (l_cons (l_cons l_nil))))))))))))))))))))⟩
  obtain ⟨t, dt⟩ := rest
  refine ⟨_, pss_cons (ps_set (i := 1) sc_law.nd rfl (.inl rfl) (pe_callS (ok__law_bag T) (hr.mono (by decide)) (by rfl) T.m__law_bag T.t__law_bag.kp T.b__law_bag (fun σ => passAt tk0 σ) (pa_cons (pv 0) (pa_cons pe_int pa_nil)))) dt.ps, ?_⟩
  refine ⟨_, rfl, l, ns, 0, rfl, hl, h63, by decide, by decide, fun x m H' p sm hp h1 => ?_⟩
  obtain ⟨s', e'⟩ := good (bag0 x m)
  refine dt.run ⟨some (p, none), none, fun z => z = p, fun z _ e => by cases e; rfl, (fun _ _ _ e => nomatch e), (fun _ _ _ _ _ _ e => nomatch e)⟩ _ H' ρ0 (bag0 x m) _ ⟨rfl, fun i d q => ?_⟩ ⟨fun b kd eb => ?_, (fun _ _ _ e => nomatch e), fun b hb => ⟨.lst [.int x, .int m, .int 0], by rw [show b = p from hb]; exact h1⟩⟩ ?_
  · match i, q with
    | 1, q => cases q; exact ⟨.ref p, rfl, p, rfl, rfl⟩
    | 0, q => cases q
    | 2, q => cases q
    | 3, q => cases q
    | 4, q => cases q
    | 5, q => cases q
    | 6, q => cases q
    | 7, q => cases q
    | 8, q => cases q
    | 9, q => cases q
    | 10, q => cases q
    | 11, q => cases q
    | 12, q => cases q
    | 13, q => cases q
    | 14, q => cases q
    | 15, q => cases q
    | 16, q => cases q
    | 17, q => cases q
    | n + 18, q => cases q
  · cases eb; exact .inl ⟨rfl, h1⟩
  · rw [e']
    intro v H2 _ _ rd
    obtain rfl : v = .bl true := rd
    exact k H2

end
end K13

set_option Elab.async false
set_option linter.all false
set_option maxRecDepth 100000
set_option maxHeartbeats 4000000
set_option autoImplicit false
namespace K13
open PySem L2 Tw

theorem zansE_6_9 (ns : List Str) (xs : List D) (s : Pen) : isiX ansE [.err 6 ns xs, .cls 9] s = .ok (.bl false) s := nr rfl
theorem zansE_6_3 (ns : List Str) (xs : List D) (s : Pen) : isiX ansE [.err 6 ns xs, .cls 3] s = .ok (.bl false) s := nr rfl
theorem zansE_1_9 (ns : List Str) (xs : List D) (s : Pen) : isiX ansE [.err 1 ns xs, .cls 9] s = .ok (.bl false) s := nr rfl
theorem zansE_1_3 (ns : List Str) (xs : List D) (s : Pen) : isiX ansE [.err 1 ns xs, .cls 3] s = .ok (.bl false) s := nr rfl
theorem zansE_2_9 (ns : List Str) (xs : List D) (s : Pen) : isiX ansE [.err 2 ns xs, .cls 9] s = .ok (.bl false) s := nr rfl
theorem zansE_2_3 (ns : List Str) (xs : List D) (s : Pen) : isiX ansE [.err 2 ns xs, .cls 3] s = .ok (.bl false) s := nr rfl
theorem zansE_8_9 (ns : List Str) (xs : List D) (s : Pen) : isiX ansE [.err 8 ns xs, .cls 9] s = .ok (.bl false) s := nr rfl
theorem zansE_8_3 (ns : List Str) (xs : List D) (s : Pen) : isiX ansE [.err 8 ns xs, .cls 3] s = .ok (.bl false) s := nr rfl
theorem zansE_9_9 (ns : List Str) (xs : List D) (s : Pen) : isiX ansE [.err 9 ns xs, .cls 9] s = .ok (.bl true) s := nr rfl
theorem zansE_9_3 (ns : List Str) (xs : List D) (s : Pen) : isiX ansE [.err 9 ns xs, .cls 3] s = .ok (.bl false) s := nr rfl
theorem zansE_5_9 (ns : List Str) (xs : List D) (s : Pen) : isiX ansE [.err 5 ns xs, .cls 9] s = .ok (.bl false) s := nr rfl
theorem zansE_5_3 (ns : List Str) (xs : List D) (s : Pen) : isiX ansE [.err 5 ns xs, .cls 3] s = .ok (.bl false) s := nr rfl
theorem zansE_3_9 (ns : List Str) (xs : List D) (s : Pen) : isiX ansE [.err 3 ns xs, .cls 9] s = .ok (.bl false) s := nr rfl
theorem zansE_3_3 (ns : List Str) (xs : List D) (s : Pen) : isiX ansE [.err 3 ns xs, .cls 3] s = .ok (.bl true) s := nr rfl
theorem zans_12_10 (ns : List Str) (xs : List D) (s : Pen) : isiA ans [.ins 12 ns xs, .cls 10] s = .ok (.bl false) s := nr rfl
theorem zans_12_11 (ns : List Str) (xs : List D) (s : Pen) : isiA ans [.ins 12 ns xs, .cls 11] s = .ok (.bl false) s := nr rfl
theorem zans_12_13 (ns : List Str) (xs : List D) (s : Pen) : isiA ans [.ins 12 ns xs, .cls 13] s = .ok (.bl false) s := nr rfl
theorem zans_12_bool (ns : List Str) (xs : List D) (s : Pen) : isiA ans [.ins 12 ns xs, .ty "bool"] s = .ok (.bl false) s := nr rfl
theorem zans_12_int (ns : List Str) (xs : List D) (s : Pen) : isiA ans [.ins 12 ns xs, .ty "int"] s = .ok (.bl false) s := nr rfl
theorem zans_12_list (ns : List Str) (xs : List D) (s : Pen) : isiA ans [.ins 12 ns xs, .ty "list"] s = .ok (.bl false) s := nr rfl
theorem zans_12_tuple (ns : List Str) (xs : List D) (s : Pen) : isiA ans [.ins 12 ns xs, .ty "tuple"] s = .ok (.bl false) s := nr rfl
theorem zans_10_10 (ns : List Str) (xs : List D) (s : Pen) : isiA ans [.ins 10 ns xs, .cls 10] s = .ok (.bl true) s := nr rfl
theorem zans_10_11 (ns : List Str) (xs : List D) (s : Pen) : isiA ans [.ins 10 ns xs, .cls 11] s = .ok (.bl false) s := nr rfl
theorem zans_10_13 (ns : List Str) (xs : List D) (s : Pen) : isiA ans [.ins 10 ns xs, .cls 13] s = .ok (.bl false) s := nr rfl
theorem zans_10_bool (ns : List Str) (xs : List D) (s : Pen) : isiA ans [.ins 10 ns xs, .ty "bool"] s = .ok (.bl false) s := nr rfl
theorem zans_10_int (ns : List Str) (xs : List D) (s : Pen) : isiA ans [.ins 10 ns xs, .ty "int"] s = .ok (.bl false) s := nr rfl
theorem zans_10_list (ns : List Str) (xs : List D) (s : Pen) : isiA ans [.ins 10 ns xs, .ty "list"] s = .ok (.bl false) s := nr rfl
theorem zans_10_tuple (ns : List Str) (xs : List D) (s : Pen) : isiA ans [.ins 10 ns xs, .ty "tuple"] s = .ok (.bl false) s := nr rfl
theorem zans_11_10 (ns : List Str) (xs : List D) (s : Pen) : isiA ans [.ins 11 ns xs, .cls 10] s = .ok (.bl false) s := nr rfl
theorem zans_11_11 (ns : List Str) (xs : List D) (s : Pen) : isiA ans [.ins 11 ns xs, .cls 11] s = .ok (.bl true) s := nr rfl
theorem zans_11_13 (ns : List Str) (xs : List D) (s : Pen) : isiA ans [.ins 11 ns xs, .cls 13] s = .ok (.bl false) s := nr rfl
theorem zans_11_bool (ns : List Str) (xs : List D) (s : Pen) : isiA ans [.ins 11 ns xs, .ty "bool"] s = .ok (.bl false) s := nr rfl
theorem zans_11_int (ns : List Str) (xs : List D) (s : Pen) : isiA ans [.ins 11 ns xs, .ty "int"] s = .ok (.bl false) s := nr rfl
theorem zans_11_list (ns : List Str) (xs : List D) (s : Pen) : isiA ans [.ins 11 ns xs, .ty "list"] s = .ok (.bl false) s := nr rfl
theorem zans_11_tuple (ns : List Str) (xs : List D) (s : Pen) : isiA ans [.ins 11 ns xs, .ty "tuple"] s = .ok (.bl false) s := nr rfl
theorem zans_13_10 (ns : List Str) (xs : List D) (s : Pen) : isiA ans [.ins 13 ns xs, .cls 10] s = .ok (.bl false) s := nr rfl
theorem zans_13_11 (ns : List Str) (xs : List D) (s : Pen) : isiA ans [.ins 13 ns xs, .cls 11] s = .ok (.bl false) s := nr rfl
theorem zans_13_13 (ns : List Str) (xs : List D) (s : Pen) : isiA ans [.ins 13 ns xs, .cls 13] s = .ok (.bl true) s := nr rfl
theorem zans_13_bool (ns : List Str) (xs : List D) (s : Pen) : isiA ans [.ins 13 ns xs, .ty "bool"] s = .ok (.bl false) s := nr rfl
theorem zans_13_int (ns : List Str) (xs : List D) (s : Pen) : isiA ans [.ins 13 ns xs, .ty "int"] s = .ok (.bl false) s := nr rfl
theorem zans_13_list (ns : List Str) (xs : List D) (s : Pen) : isiA ans [.ins 13 ns xs, .ty "list"] s = .ok (.bl false) s := nr rfl
theorem zans_13_tuple (ns : List Str) (xs : List D) (s : Pen) : isiA ans [.ins 13 ns xs, .ty "tuple"] s = .ok (.bl false) s := nr rfl
theorem zans_NoneType_10  (s : Pen) : isiA ans [.non, .cls 10] s = .ok (.bl false) s := nr rfl
theorem zans_NoneType_11  (s : Pen) : isiA ans [.non, .cls 11] s = .ok (.bl false) s := nr rfl
theorem zans_NoneType_13  (s : Pen) : isiA ans [.non, .cls 13] s = .ok (.bl false) s := nr rfl
theorem zans_14_10 (ns : List Str) (xs : List D) (s : Pen) : isiA ans [.ins 14 ns xs, .cls 10] s = .ok (.bl false) s := nr rfl
theorem zans_14_11 (ns : List Str) (xs : List D) (s : Pen) : isiA ans [.ins 14 ns xs, .cls 11] s = .ok (.bl false) s := nr rfl
theorem zans_14_13 (ns : List Str) (xs : List D) (s : Pen) : isiA ans [.ins 14 ns xs, .cls 13] s = .ok (.bl false) s := nr rfl
theorem zans_14_bool (ns : List Str) (xs : List D) (s : Pen) : isiA ans [.ins 14 ns xs, .ty "bool"] s = .ok (.bl false) s := nr rfl
theorem zans_14_int (ns : List Str) (xs : List D) (s : Pen) : isiA ans [.ins 14 ns xs, .ty "int"] s = .ok (.bl false) s := nr rfl
theorem zans_14_list (ns : List Str) (xs : List D) (s : Pen) : isiA ans [.ins 14 ns xs, .ty "list"] s = .ok (.bl false) s := nr rfl
theorem zans_14_tuple (ns : List Str) (xs : List D) (s : Pen) : isiA ans [.ins 14 ns xs, .ty "tuple"] s = .ok (.bl false) s := nr rfl
theorem zans_bool_10 (b : Bool) (s : Pen) : isiA ans [.bl b, .cls 10] s = .ok (.bl false) s := nr rfl
theorem zans_bool_11 (b : Bool) (s : Pen) : isiA ans [.bl b, .cls 11] s = .ok (.bl false) s := nr rfl
theorem zans_bool_13 (b : Bool) (s : Pen) : isiA ans [.bl b, .cls 13] s = .ok (.bl false) s := nr rfl
theorem zans_int_10 (b : Int) (s : Pen) : isiA ans [.int b, .cls 10] s = .ok (.bl false) s := nr rfl
theorem zans_int_11 (b : Int) (s : Pen) : isiA ans [.int b, .cls 11] s = .ok (.bl false) s := nr rfl
theorem zans_int_13 (b : Int) (s : Pen) : isiA ans [.int b, .cls 13] s = .ok (.bl false) s := nr rfl
theorem zans_list_10 (b : List D) (s : Pen) : isiA ans [.lst b, .cls 10] s = .ok (.bl false) s := nr rfl
theorem zans_list_11 (b : List D) (s : Pen) : isiA ans [.lst b, .cls 11] s = .ok (.bl false) s := nr rfl
theorem zans_list_13 (b : List D) (s : Pen) : isiA ans [.lst b, .cls 13] s = .ok (.bl false) s := nr rfl
theorem zans_str_10 (b : Str) (s : Pen) : isiA ans [.str b, .cls 10] s = .ok (.bl false) s := nr rfl
theorem zans_str_11 (b : Str) (s : Pen) : isiA ans [.str b, .cls 11] s = .ok (.bl false) s := nr rfl
theorem zans_str_13 (b : Str) (s : Pen) : isiA ans [.str b, .cls 13] s = .ok (.bl false) s := nr rfl
theorem zans_tuple_10 (b : List D) (s : Pen) : isiA ans [.tup b, .cls 10] s = .ok (.bl false) s := nr rfl
theorem zans_tuple_11 (b : List D) (s : Pen) : isiA ans [.tup b, .cls 11] s = .ok (.bl false) s := nr rfl
theorem zans_tuple_13 (b : List D) (s : Pen) : isiA ans [.tup b, .cls 13] s = .ok (.bl false) s := nr rfl
local macro_rules | `(tactic| walk_at "sm") => `(tactic| first | assumption | exact Sm.lit200 (by decide) | (apply Sm.mul; walk_at "sm"; walk_at "sm") | (apply Sm.add2; walk_at "sm"; walk_at "sm") | (apply Sm.sub2; walk_at "sm"; walk_at "sm") | (apply Sm.neg; walk_at "sm"))
local macro_rules | `(tactic| walk_at "mo") => `(tactic| (apply mulOk_any; walk_at "sm"; walk_at "sm"; decide))
local macro_rules | `(tactic| walk_at "ds") => `(tactic| first | assumption | rfl | exact Nat.le_of_ble_eq_true rfl | walk_at "mo" | decide | omega)
local macro_rules | `(tactic| walk_at "tw") => `(tactic| simp (disch := walk_at "ds") only [↓y_nox, ↓y_seq, ↓y_mvZ, ↓y_mvS, ↓y_c, ↓y_op, ↓y_un, ↓y_b, ↓y_asB, ↓y_and, ↓y_or, ↓y_not, ↓y_andV, ↓y_orV, ↓y_notV, ↓y_ifE, ↓y_ch, ↓y_nil, ↓y_cons, ↓y_call, ↓y_callD, ↓y_iL, ↓y_iT, ↓y_asL, ↓y_asT, ↓y_iS, ↓y_asSl, ↓y_asSt, ↓y_iR1, ↓y_iR2, ↓y_iZ, ↓y_iN, ↓y_iOw, ↓y_zll, ↓y_zlt, ↓y_ztl, ↓y_ztt, ↓y_enl, ↓y_ent, ↓y_rng, ↓y_zNx, ↓y_zBk, ↓y_zCt, ↓y_ex, ↓y_ret, ↓y_retN, ↓y_if, ↓y_raise, ↓y_raiseN, ↓y_asg, ↓y_gnm, ↓y_par, ↓y_gcn, ↓y_gnl, ↓y_gtm2, ↓y_gtm3, ↓y_addI, ↓y_add, ↓y_sub, ↓y_neg, ↓y_lt, ↓y_le, ↓y_gt, ↓y_ge, ↓y_eqi, ↓y_eqb, ↓y_eqs, ↓y_nei, ↓y_neb, ↓y_nes, ↓y_isb, ↓y_nob, ↓y_lenl, ↓y_lent, ↓y_tuple_l, ↓y_tuple_t, ↓y_list_l, ↓y_list_t, ↓y_int, ↓y_abs, ↓y_gcd, ↓y_max2, ↓y_lst, ↓y_tup, ↓y_mul, ↓y_fld, ↓y_meth, ↓y_prop, ↓y_isI, ↓y_mk, ↓y_bget, ↓y_sfor, ↓y_mdef, ↓y_oA, oAK_exc, oAK_nx, backOf_bl, backOf_nx, y_isiX, y_isiXt, ↓y_xf, y_xf1, eq_self, ↓y_par3, ↓parK3_ok, ↓y_cmS, ↓y_cmSK, ↓y_mkV, ↓y_mkVK, ↓y_isNon, ↓y_sl, ↓y_part, ↓y_no, ↓y_pi, ↓y_sll, ↓y_slt, ↓y_cat, ↓y_mbind, ↓y_obind, ↓obind_exc, ↓y_sof, ↓sof_exc, ↓seqk_nx, ↓seqk_ret, ↓seqk_bk, ↓seqk_ct, ↓seqk_exc, ↓noxk_ok, ↓gok_some, ↓parK_ok, ↓gcK_some, ↓retk_nx, ↓retk_ret, ↓retk_exc, ↓y_mret, y_obind, obind_exc, y_sof, sof_exc, seqk_nx, seqk_ret, seqk_bk, seqk_ct, seqk_exc, noxk_ok, gok_some, parK_ok, gcK_some, retk_nx, retk_ret, retk_exc, y_mret, ↓reduceIte, reduceIte, ↓y_set0, ↓y_setS, startL,
  int2c, mul_eq, fdv_eq, fdv_64, fmd_eq, ne_eq, not_false_eq_true, Int.reduceEq, Nat.reduceLeDiff, Int.reduceAdd, Int.reduceNeg, Int.reduceLT, Int.reduceLE, Int.reduceSub, Nat.reduceEqDiff, Nat.reduceLT, p9, p15, p18, p20, p30, p6, beq_self_eq_true, isNo, notNo, itemD, bagGet, bagPut, Pen.bget, Pen.bput, objPut, at0, at1, at2, isiA_int, isiA_bl, isiA_non, isiA_str, isiA_tup, isiA_lst, ii_int, ii_bool, ib_int, ib_bool, in_int, is_int, it_int, il_int, it_tuple, il_tuple, in_bool, is_bool, it_bool, il_bool,
  List.map_cons, List.map_nil, List.length_cons, List.length_nil, List.cons_append, List.nil_append, List.append_nil, List.getElem?_cons_zero, List.getElem?_cons_succ, List.replicate_succ, List.replicate_zero, Nat.reduceSub, Nat.reduceAdd, if_true, if_false, decide_eq_true_eq, Bool.not_eq_true', Bool.true_eq_false, Bool.false_eq_true, decide_true, decide_false, Bool.not_true, Bool.not_false, ite_true, ite_false, List.length_map, and_true, true_and, and_false, false_and, and_self, or_true, true_or, or_false, false_or, not_true_eq_false, Bool.not_eq_false, Bool.not_eq_true, decide_eq_false_iff_not, Int.sub_self, Bool.and_self, Bool.or_self, Bool.true_or, Bool.or_true, Bool.false_or, Bool.or_false, Bool.true_and, Bool.and_true, Bool.and_false, Bool.false_and, ↓zansE_6_9, ↓zansE_6_3, ↓zansE_1_9, ↓zansE_1_3, ↓zansE_2_9, ↓zansE_2_3, ↓zansE_8_9, ↓zansE_8_3, ↓zansE_9_9, ↓zansE_9_3, ↓zansE_5_9, ↓zansE_5_3, ↓zansE_3_9, ↓zansE_3_3, ↓zans_12_10, ↓zans_12_11, ↓zans_12_13, ↓zans_12_bool, ↓zans_12_int, ↓zans_12_list, ↓zans_12_tuple, ↓zans_10_10, ↓zans_10_11, ↓zans_10_13, ↓zans_10_bool, ↓zans_10_int, ↓zans_10_list, ↓zans_10_tuple, ↓zans_11_10, ↓zans_11_11, ↓zans_11_13, ↓zans_11_bool, ↓zans_11_int, ↓zans_11_list, ↓zans_11_tuple, ↓zans_13_10, ↓zans_13_11, ↓zans_13_13, ↓zans_13_bool, ↓zans_13_int, ↓zans_13_list, ↓zans_13_tuple, ↓zans_NoneType_10, ↓zans_NoneType_11, ↓zans_NoneType_13, ↓zans_14_10, ↓zans_14_11, ↓zans_14_13, ↓zans_14_bool, ↓zans_14_int, ↓zans_14_list, ↓zans_14_tuple, ↓zans_bool_10, ↓zans_bool_11, ↓zans_bool_13, ↓zans_int_10, ↓zans_int_11, ↓zans_int_13, ↓zans_list_10, ↓zans_list_11, ↓zans_list_13, ↓zans_str_10, ↓zans_str_11, ↓zans_str_13, ↓zans_tuple_10, ↓zans_tuple_11, ↓zans_tuple_13, *])
theorem isnum_int (i : Int) : m_is_number [.int i] = mret (.bl true) := by
  funext s
  refine mdef_ret ?_
  unfold b_is_number
  walk_at "tw"
theorem iscount_int (i : Int) : m_is_count [.int i] = mret (.bl (decide (0 ≤ i))) := by
  funext s
  refine mdef_ret ?_
  unfold b_is_count
  have h := isnum_int i
  walk_at "tw"
theorem iswhole_int (i lo hi : Int) : m_is_whole [.int i, .int lo, .int hi] = mret (.bl (decide (lo ≤ i) && decide (i ≤ hi))) := by
  funext s
  refine mdef_ret ?_
  unfold b_is_whole
  have h := isnum_int i
  by_cases h1 : lo ≤ i
  · walk_at "tw"
  · walk_at "tw"
theorem isrow_seq {d : D} {xs : List D} (h : seqD d = some xs) (a b : Int) : m_is_row [d, .int a, .int b] = mret (.bl (decide (a ≤ (xs.length : Nat)) && decide (((xs.length : Nat) : Int) ≤ b))) := by
  funext s
  refine mdef_ret ?_
  unfold b_is_row
  have h1 := @seqT_lst ans
  have h2 := @seqT_tup ans
  cases d <;> cases h
  · by_cases h3 : a ≤ (xs.length : Nat)
    · walk_at "tw"
    · walk_at "tw"
  · by_cases h3 : a ≤ (xs.length : Nat)
    · walk_at "tw"
    · walk_at "tw"
abbrev W (ns : List Int) : D := .ins 14 ["numbers"] [.tup (is ns)]
def Fit (n : Nat) : Prop := 4 ≤ n ∧ n ≤ 18 ∧ n % 2 = 0
def cnt : D → Bool
  | .int i => decide (0 ≤ i)
  | _ => false
theorem count_eq {d : D} (h : plainD d = true) : m_is_count [d] = mret (.bl (cnt d)) := by
  have gen : ∀ d : D, isiA ans [d, .ty "int"] = mret (.bl false) → m_is_count [d] = mret (.bl false) := by
    intro d h1
    funext s
    refine mdef_ret ?_
    have h2 : m_is_number [d] = mret (.bl false) := by
      funext s
      refine mdef_ret ?_
      unfold b_is_number
      walk_at "tw"
    unfold b_is_count
    walk_at "tw"
  cases d <;> try cases h
  · exact gen _ in_int
  · rename_i b
    funext s
    refine mdef_ret ?_
    have h2 : m_is_number [.bl b] = mret (.bl false) := by
      have h3 : isiB [.bl b, .ty "bool"] = mret (.bl true) := ib_bool b
      funext s
      refine mdef_ret ?_
      unfold b_is_number
      walk_at "tw"
    unfold b_is_count
    have h4 : cnt (.bl b) = false := rfl
    walk_at "tw"
  · exact iscount_int _
  · rename_i x
    exact gen (.str x) (is_int x)
  · rename_i x
    exact gen (.lst x) (il_int x)
  · rename_i x
    exact gen (.tup x) (it_int x)
theorem row_all {d : D} {xs : List D} (h : seqD d = some xs) (hp : plainL xs = true) (hl : xs.length ≤ 100000) (s : Pen) :
    kLc (iS (mvar 1)) (gnm 2) (fun _ => mret true) (kCall m_is_count (aCons (mvar 2) aNil)) [2] [some .self, some d, none] s = .ok (.lst (xs.map fun d => .bl (cnt d))) s := by
  have hf : iS (mvar 1) [some .self, some d, none] = mret xs := by
    show asS d = _
    unfold asS; rw [h]
  rw [lc_map (fun d => .bl (cnt d)) hf hl fun x hx => ⟨[some .self, some d, some x], rfl, by
    have h1 := count_eq (plainL_mem.mp hp x hx)
    funext s
    walk_at "tw"⟩]
  rfl
/-- what is not made: the word -/
theorem fit_row {d : D} {xs : List D} (h : seqD d = some xs) (hl : Fit xs.length) : m_is_row [d, .int 4, .int 18] = mret (.bl true) ∧ lenD [d] = mret (.int (xs.length : Nat)) ∧ ((xs.length : Nat) : Int).fmod 2 = 0 := by
  obtain ⟨h1, h2, h3⟩ := hl
  refine ⟨?_, lenD_seq h, by rw [Int.fmod_eq_emod_of_nonneg _ (by decide)]; omega⟩
  rw [isrow_seq h 4 18, decide_eq_true (by omega), decide_eq_true (by omega)]
  rfl
theorem init_ok {d : D} {xs : List D} {s : Pen} (h : seqD d = some xs) (hp : plainL xs = true) (hl : Fit xs.length) (hc : xs.all cnt = true) : b_Weights___init__ [some .self, some d, none] { s with obj := [], ocls := 14 } = .nx [some .self, some d, none] { s with obj := [("numbers", .tup xs)], ocls := 14 } := by
  unfold b_Weights___init__ b_Weights___init___0 b_Weights___init___1 b_Weights___init___2
  obtain ⟨r, l, m⟩ := fit_row h hl
  have e := row_all h hp (by have := hl.2.1; omega)
  have e2 := all_map cnt xs
  have t : tupleD [d] = mret (.tup xs) := by cases d <;> cases h <;> rfl
  have c := plainL_clear xs hp
  clear h
  walk_at "tw"
  simp [List.lookup, gro, clear, c]
theorem mk_ok {d : D} {xs : List D} (h : seqD d = some xs) (hp : plainL xs = true) (hl : Fit xs.length) (hc : xs.all cnt = true) (hd : clear d = true) : mkD 14 m_Weights___init__ [d] = mret (.ins 14 ["numbers"] [.tup xs]) := by
  funext s
  have e : m_Weights___init__ [.self, d] { s with obj := [], ocls := 14 } = .ok .non { s with obj := [("numbers", .tup xs)], ocls := 14 } := by
    show mdef 3 _ _ _ = _
    unfold mdef
    rw [show startL 3 [D.self, d] = [some .self, some d, none] from rfl, init_ok h hp hl hc]
  refine mkD_of ?_ e
  show ((clear d && true) && true) = true
  rw [hd]; rfl
end K13

set_option Elab.async false
set_option linter.all false
set_option maxRecDepth 100000
set_option maxHeartbeats 4000000
set_option autoImplicit false
namespace K13
open PySem L2 Tw

theorem y_fldW (ns : List Int) (s : Pen) : fldD cf_numbers "numbers" (W ns) s = .ok (.tup (is ns)) s := nr rfl
local macro_rules | `(tactic| walk_at "sm") => `(tactic| first | assumption | exact Sm.lit200 (by decide) | (apply Sm.mul; walk_at "sm"; walk_at "sm") | (apply Sm.add2; walk_at "sm"; walk_at "sm") | (apply Sm.sub2; walk_at "sm"; walk_at "sm") | (apply Sm.neg; walk_at "sm"))
local macro_rules | `(tactic| walk_at "mo") => `(tactic| (apply mulOk_any; walk_at "sm"; walk_at "sm"; decide))
local macro_rules | `(tactic| walk_at "ds") => `(tactic| first | assumption | rfl | exact Nat.le_of_ble_eq_true rfl | walk_at "mo" | decide | omega)
local macro_rules | `(tactic| walk_at "tw") => `(tactic| simp (disch := walk_at "ds") only [↓y_nox, ↓y_seq, ↓y_mvZ, ↓y_mvS, ↓y_c, ↓y_op, ↓y_un, ↓y_b, ↓y_asB, ↓y_and, ↓y_or, ↓y_not, ↓y_andV, ↓y_orV, ↓y_notV, ↓y_ifE, ↓y_ch, ↓y_nil, ↓y_cons, ↓y_call, ↓y_callD, ↓y_iL, ↓y_iT, ↓y_asL, ↓y_asT, ↓y_iS, ↓y_asSl, ↓y_asSt, ↓y_iR1, ↓y_iR2, ↓y_iZ, ↓y_iN, ↓y_iOw, ↓y_zll, ↓y_zlt, ↓y_ztl, ↓y_ztt, ↓y_enl, ↓y_ent, ↓y_rng, ↓y_zNx, ↓y_zBk, ↓y_zCt, ↓y_ex, ↓y_ret, ↓y_retN, ↓y_if, ↓y_raise, ↓y_raiseN, ↓y_asg, ↓y_gnm, ↓y_par, ↓y_gcn, ↓y_gnl, ↓y_gtm2, ↓y_gtm3, ↓y_addI, ↓y_add, ↓y_sub, ↓y_neg, ↓y_lt, ↓y_le, ↓y_gt, ↓y_ge, ↓y_eqi, ↓y_eqb, ↓y_eqs, ↓y_nei, ↓y_neb, ↓y_nes, ↓y_isb, ↓y_nob, ↓y_lenl, ↓y_lent, ↓y_tuple_l, ↓y_tuple_t, ↓y_list_l, ↓y_list_t, ↓y_int, ↓y_abs, ↓y_gcd, ↓y_max2, ↓y_lst, ↓y_tup, ↓y_mul, ↓y_fld, ↓y_meth, ↓y_prop, ↓y_isI, ↓y_mk, ↓y_bget, ↓y_sfor, ↓y_mdef, ↓y_oA, oAK_exc, oAK_nx, backOf_bl, backOf_nx, y_isiX, y_isiXt, ↓y_xf, y_xf1, eq_self, ↓y_par3, ↓parK3_ok, ↓y_cmS, ↓y_cmSK, ↓y_mkV, ↓y_mkVK, ↓y_isNon, ↓y_sl, ↓y_part, ↓y_no, ↓y_pi, ↓y_sll, ↓y_slt, ↓y_cat, ↓y_mbind, ↓y_obind, ↓obind_exc, ↓y_sof, ↓sof_exc, ↓seqk_nx, ↓seqk_ret, ↓seqk_bk, ↓seqk_ct, ↓seqk_exc, ↓noxk_ok, ↓gok_some, ↓parK_ok, ↓gcK_some, ↓retk_nx, ↓retk_ret, ↓retk_exc, ↓y_mret, y_obind, obind_exc, y_sof, sof_exc, seqk_nx, seqk_ret, seqk_bk, seqk_ct, seqk_exc, noxk_ok, gok_some, parK_ok, gcK_some, retk_nx, retk_ret, retk_exc, y_mret, ↓reduceIte, reduceIte, ↓y_set0, ↓y_setS, startL,
  int2c, mul_eq, fdv_eq, fdv_64, fmd_eq, ne_eq, not_false_eq_true, Int.reduceEq, Nat.reduceLeDiff, Int.reduceAdd, Int.reduceNeg, Int.reduceLT, Int.reduceLE, Int.reduceSub, Nat.reduceEqDiff, Nat.reduceLT, p9, p15, p18, p20, p30, p6, beq_self_eq_true, isNo, notNo, itemD, bagGet, bagPut, Pen.bget, Pen.bput, objPut, at0, at1, at2, isiA_int, isiA_bl, isiA_non, isiA_str, isiA_tup, isiA_lst, ii_int, ii_bool, ib_int, ib_bool, in_int, is_int, it_int, il_int, it_tuple, il_tuple, in_bool, is_bool, it_bool, il_bool,
  List.map_cons, List.map_nil, List.length_cons, List.length_nil, List.cons_append, List.nil_append, List.append_nil, List.getElem?_cons_zero, List.getElem?_cons_succ, List.replicate_succ, List.replicate_zero, Nat.reduceSub, Nat.reduceAdd, if_true, if_false, decide_eq_true_eq, Bool.not_eq_true', Bool.true_eq_false, Bool.false_eq_true, decide_true, decide_false, Bool.not_true, Bool.not_false, ite_true, ite_false, List.length_map, and_true, true_and, and_false, false_and, and_self, or_true, true_or, or_false, false_or, not_true_eq_false, Bool.not_eq_false, Bool.not_eq_true, decide_eq_false_iff_not, Int.sub_self, Bool.and_self, Bool.or_self, Bool.true_or, Bool.or_true, Bool.false_or, Bool.or_false, Bool.true_and, Bool.and_true, Bool.and_false, Bool.false_and, ↓zansE_6_9, ↓zansE_6_3, ↓zansE_1_9, ↓zansE_1_3, ↓zansE_2_9, ↓zansE_2_3, ↓zansE_8_9, ↓zansE_8_3, ↓zansE_9_9, ↓zansE_9_3, ↓zansE_5_9, ↓zansE_5_3, ↓zansE_3_9, ↓zansE_3_3, ↓zans_12_10, ↓zans_12_11, ↓zans_12_13, ↓zans_12_bool, ↓zans_12_int, ↓zans_12_list, ↓zans_12_tuple, ↓zans_10_10, ↓zans_10_11, ↓zans_10_13, ↓zans_10_bool, ↓zans_10_int, ↓zans_10_list, ↓zans_10_tuple, ↓zans_11_10, ↓zans_11_11, ↓zans_11_13, ↓zans_11_bool, ↓zans_11_int, ↓zans_11_list, ↓zans_11_tuple, ↓zans_13_10, ↓zans_13_11, ↓zans_13_13, ↓zans_13_bool, ↓zans_13_int, ↓zans_13_list, ↓zans_13_tuple, ↓zans_NoneType_10, ↓zans_NoneType_11, ↓zans_NoneType_13, ↓zans_14_10, ↓zans_14_11, ↓zans_14_13, ↓zans_14_bool, ↓zans_14_int, ↓zans_14_list, ↓zans_14_tuple, ↓zans_bool_10, ↓zans_bool_11, ↓zans_bool_13, ↓zans_int_10, ↓zans_int_11, ↓zans_int_13, ↓zans_list_10, ↓zans_list_11, ↓zans_list_13, ↓zans_str_10, ↓zans_str_11, ↓zans_str_13, ↓zans_tuple_10, ↓zans_tuple_11, ↓zans_tuple_13, ↓y_fldW, *])
theorem len_eq (ns : List Int) (hl : ns.length ≤ 1000) : lenO 14 m_Weights___len__ [W ns] = mret (.int (ns.length : Nat)) := by
  have e : m_Weights___len__ [W ns] = mret (.int (ns.length : Nat)) := by
    funext s
    refine mdef_ret ?_
    unfold b_Weights___len__
    walk_at "tw"
  show mbind (nox (m_Weights___len__ [W ns])) lenI = _
  rw [e, nox_ret, mbind_ret]
  have q : (0 : Int) ≤ (ns.length : Nat) ∧ ((ns.length : Nat) : Int) < 2 ^ 63 := ⟨by omega, Int.lt_trans (show ((ns.length : Nat) : Int) < 1001 by omega) (by decide)⟩
  unfold lenI
  dsimp only
  rw [if_pos (decide_eq_true q)]
theorem list_eq (ns : List Int) (hl : ns.length ≤ 1000) : listO 14 "numbers" m_Weights___len__ [W ns] = mret (.lst (is ns)) := by
  have e : m_Weights___len__ [W ns] = mret (.int (ns.length : Nat)) := by
    funext s
    refine mdef_ret ?_
    unfold b_Weights___len__
    walk_at "tw"
  show (if decide ((is ns).length ≤ 100000) = true then mbind (nox (m_Weights___len__ [W ns])) fun d => lenOk d (is ns) else mbad) = _
  rw [if_pos (decide_eq_true (by rw [is_len]; omega)), e, nox_ret, mbind_ret]
  show (if decide ((0 : Int) ≤ (ns.length : Nat) ∧ ((ns.length : Nat) : Int) ≤ 1000000) = true then _ else _) = _
  rw [if_pos (decide_eq_true (by omega))]
theorem ix_eq {ns : List Int} {i : Nat} {n : Int} (h : ns[i]? = some n) : ixO 14 m_Weights___getitem__ (W ns) (.int (i : Nat)) = mret (.int n) := by
  show m_Weights___getitem__ [W ns, .int (i : Nat)] = _
  obtain ⟨hi, _⟩ := List.getElem?_eq_some_iff.mp h
  funext s
  refine mdef_ret ?_
  have w := iswhole_int (i : Nat) 0 ((ns.length : Nat) - 1)
  rw [decide_eq_true (by omega), decide_eq_true (by omega)] at w
  have a := at_is h
  clear h
  unfold b_Weights___getitem__ b_Weights___getitem___0 b_Weights___getitem___1
  walk_at "tw"
def Nn (ns : List Int) : Prop := Fit ns.length ∧ ∀ n ∈ ns, 0 ≤ n
theorem all_cnt {ns : List Int} (h : ∀ n ∈ ns, 0 ≤ n) : (is ns).all cnt = true := by
  rw [List.all_eq_true]
  intro d hd
  obtain ⟨n, hn, rfl⟩ := is_mem hd
  exact decide_eq_true (h n hn)
theorem mk_is {d : D} {ns : List Int} (e : seqD d = some (is ns)) (h : Nn ns) : mkD 14 m_Weights___init__ [d] = mret (W ns) := by
  refine mk_ok e (plain_is ns) (by rw [is_len]; exact h.1) (all_cnt h.2) ?_
  cases d <;> cases e <;> exact clear_is ns
theorem mkD_ap {ns : List Int} {d : D} (e : seqD d = some (is ns)) (h : Nn ns) (s : Pen) : mkD 14 m_Weights___init__ [d] s = .ok (W ns) s := by rw [mk_is e h]; rfl
theorem add_eq {a b : List Int} (hl : b.length = a.length) (h : Nn (List.zipWith (· + ·) a b)) (h0 : a.length ≤ 1000) : ownX 14 m_Weights___add__ (W a) (W b) = mret (W (List.zipWith (· + ·) a b)) := by
  show m_Weights___add__ [W a, W b] = _
  funext s
  refine mdef_ret ?_
  have c : kLc (iZ (aCons (kFld cf_numbers "numbers" (mvar 0)) (aCons (kFld cf_numbers "numbers" (mvar 1)) aNil))) (gtm 2 (gcn (gnm 2) (gcn (gnm 3) gnl))) (fun _ => mret true) (kOp addIL (mvar 2) (mvar 3)) [2, 3] [some (W a), some (W b), none, none] s = .ok (.lst (is (List.zipWith (· + ·) a b))) s := by
    have hf : iZ (aCons (kFld cf_numbers "numbers" (mvar 0)) (aCons (kFld cf_numbers "numbers" (mvar 1)) aNil)) [some (W a), some (W b), none, none] = mret (pairUp (is a) (is b)) := by
      funext s
      walk_at "tw"
    rw [lc_map add2 hf (by rw [pair_len a b hl]; omega) fun d hd => by
      obtain ⟨n, m, _, _, rfl⟩ := pair_mem a b d hd
      exact ⟨[some (W a), some (W b), some (.int n), some (.int m)], rfl, rfl⟩, pair_add]
    rfl
  have k := mkD_ap (d := .lst (is (List.zipWith (· + ·) a b))) rfl h
  have l1 : (a.length : Int) = (b.length : Nat) := by rw [hl]
  unfold b_Weights___add__ b_Weights___add___0 b_Weights___add___1
  walk_at "tw"
theorem mul_eq' {a : List Int} {t : Int} (h : Nn (a.map (· * t))) (ht : t.natAbs < 2 ^ 64) (h0 : a.length ≤ 1000) : ownI 14 m_Weights___mul__ (W a) (.int t) = mret (W (a.map (· * t))) := by
  have e : m_Weights___mul__ [W a, .int t] = mret (W (a.map (· * t))) := by
    funext s
    refine mdef_ret ?_
    have c : kLc (iT (kFld cf_numbers "numbers" (mvar 0))) (gnm 2) (fun _ => mret true) (kOp mulI (mvar 2) (mvar 1)) [2] [some (W a), some (.int t), none] s = .ok (.lst (is (a.map (· * t)))) s := by
      have hf : iT (kFld cf_numbers "numbers" (mvar 0)) [some (W a), some (.int t), none] = mret (is a) := by
        funext s
        walk_at "tw"
      rw [lc_map (fun d => .int (intOf d * t)) hf (by rw [is_len]; omega) fun d hd => by
        obtain ⟨n, hn, rfl⟩ := is_mem hd
        have m : mulOk n t = true := mulOk_r ht
        exact ⟨[some (W a), some (.int t), some (.int n)], rfl, by funext s; walk_at "tw"; rfl⟩]
      show Out.ok (D.lst ((a.map D.int).map fun d => D.int (intOf d * t))) s = Out.ok (D.lst ((a.map (· * t)).map D.int)) s
      rw [List.map_map, List.map_map]; rfl
    have k := mkD_ap (d := .lst (is (a.map (· * t)))) rfl h
    unfold b_Weights___mul__
    walk_at "tw"
  show nox (m_Weights___mul__ [W a, .int t]) = _
  rw [e]; rfl
theorem zip_len {a b : List Int} (h : b.length = a.length) : (List.zipWith (· + ·) a b).length = a.length := by rw [List.length_zipWith, h, Nat.min_self]
theorem zip_nn {a b : List Int} (hl : b.length = a.length) (ha : Nn a) (hb : Nn b) : Nn (List.zipWith (· + ·) a b) := by
  refine ⟨by rw [zip_len hl]; exact ha.1, ?_⟩
  have : ∀ (x y : List Int), (∀ n ∈ x, 0 ≤ n) → (∀ n ∈ y, 0 ≤ n) → ∀ n ∈ List.zipWith (· + ·) x y, (0 : Int) ≤ n := by
    intro x
    induction x with
    | nil => intro y _ _ n hn; exact (List.not_mem_nil hn).elim
    | cons u x ih =>
      intro y hx hy n hn
      cases y with
      | nil => exact (List.not_mem_nil hn).elim
      | cons v y =>
        rcases List.mem_cons.mp (show n ∈ (u + v) :: List.zipWith (· + ·) x y from hn) with rfl | hn
        · exact Int.add_nonneg (hx u List.mem_cons_self) (hy v List.mem_cons_self)
        · exact ih y (fun m hm => hx m (List.mem_cons_of_mem _ hm)) (fun m hm => hy m (List.mem_cons_of_mem _ hm)) n hn
  exact this a b ha.2 hb.2
theorem mul_nn {a : List Int} {t : Int} (h0 : 0 ≤ t) (ha : Nn a) : Nn (a.map (· * t)) := by
  refine ⟨by rw [List.length_map]; exact ha.1, fun n hn => ?_⟩
  obtain ⟨m, hm, rfl⟩ := List.mem_map.mp hn
  exact Int.mul_nonneg (ha.2 m hm) h0
theorem rep_ones (k : Int) (v : Int) : repD [.int v] k = is (List.replicate k.toNat v) := by
  unfold repD is
  rw [List.map_replicate]
  induction k.toNat with
  | zero => rfl
  | succ m ih => rw [List.replicate_succ, List.flatten_cons, ih]; rfl
theorem ones_nn {k : Int} {v : Int} (hk : Fit k.toNat) (hv : 0 ≤ v) : Nn (List.replicate k.toNat v) := by
  refine ⟨by rw [List.length_replicate]; exact hk, fun n hn => ?_⟩
  rw [(List.mem_replicate.mp hn).2]; exact hv
theorem take_ok (s : Pen) (many : Int) (h : 0 < many) (h9 : many.natAbs.log2 < 9000) : ∃ d s', m__law_take [.bag, .int many] s = .ok (.int d) s' ∧ 0 ≤ d ∧ d < many ∧ s'.obj = s.obj ∧ s'.ocls = s.ocls := Bag.take_ok s many h h9
theorem of_ok (s : Pen) (xs : List D) (h : 0 < xs.length) (hl : xs.length ≤ 1000) : ∃ d s', m__law_of [.bag, .lst xs] s = .ok d s' ∧ d ∈ xs ∧ s'.obj = s.obj ∧ s'.ocls = s.ocls := Bag.of_ok s xs h hl
theorem rep_len (xs : List D) (k : Int) : (repD xs k).length = k.toNat * xs.length := by
  unfold repD; simp
theorem rep_eq {xs : List D} {k : Int} (h0 : 0 ≤ k) (h1 : k ≤ 100) (hl : xs.length ≤ 1000) : repL' (.lst xs) (.int k) = mret (.lst (repD xs k)) := by
  have : xs.length * k.toNat ≤ 1000 * 100 := Nat.mul_le_mul hl (by omega)
  show (if decide (-1000000 ≤ k ∧ k ≤ 1000000 ∧ xs.length * k.toNat ≤ 1000000) = true then mret (D.lst (repD xs k)) else mbad) = _
  rw [if_pos (decide_eq_true ⟨by omega, by omega, by omega⟩)]
end K13

set_option Elab.async false
set_option linter.all false
set_option maxRecDepth 100000
set_option maxHeartbeats 4000000
set_option autoImplicit false
namespace K13
open PySem L2 Tw

local macro_rules | `(tactic| walk_at "sm") => `(tactic| first | assumption | exact Sm.lit200 (by decide) | (apply Sm.mul; walk_at "sm"; walk_at "sm") | (apply Sm.add2; walk_at "sm"; walk_at "sm") | (apply Sm.sub2; walk_at "sm"; walk_at "sm") | (apply Sm.neg; walk_at "sm"))
local macro_rules | `(tactic| walk_at "mo") => `(tactic| (apply mulOk_any; walk_at "sm"; walk_at "sm"; decide))
local macro_rules | `(tactic| walk_at "ds") => `(tactic| first | assumption | rfl | exact Nat.le_of_ble_eq_true rfl | walk_at "mo" | decide | omega)
local macro_rules | `(tactic| walk_at "tw") => `(tactic| simp (disch := walk_at "ds") only [↓y_nox, ↓y_seq, ↓y_mvZ, ↓y_mvS, ↓y_c, ↓y_op, ↓y_un, ↓y_b, ↓y_asB, ↓y_and, ↓y_or, ↓y_not, ↓y_andV, ↓y_orV, ↓y_notV, ↓y_ifE, ↓y_ch, ↓y_nil, ↓y_cons, ↓y_call, ↓y_callD, ↓y_iL, ↓y_iT, ↓y_asL, ↓y_asT, ↓y_iS, ↓y_asSl, ↓y_asSt, ↓y_iR1, ↓y_iR2, ↓y_iZ, ↓y_iN, ↓y_iOw, ↓y_zll, ↓y_zlt, ↓y_ztl, ↓y_ztt, ↓y_enl, ↓y_ent, ↓y_rng, ↓y_zNx, ↓y_zBk, ↓y_zCt, ↓y_ex, ↓y_ret, ↓y_retN, ↓y_if, ↓y_raise, ↓y_raiseN, ↓y_asg, ↓y_gnm, ↓y_par, ↓y_gcn, ↓y_gnl, ↓y_gtm2, ↓y_gtm3, ↓y_addI, ↓y_add, ↓y_sub, ↓y_neg, ↓y_lt, ↓y_le, ↓y_gt, ↓y_ge, ↓y_eqi, ↓y_eqb, ↓y_eqs, ↓y_nei, ↓y_neb, ↓y_nes, ↓y_isb, ↓y_nob, ↓y_lenl, ↓y_lent, ↓y_tuple_l, ↓y_tuple_t, ↓y_list_l, ↓y_list_t, ↓y_int, ↓y_abs, ↓y_gcd, ↓y_max2, ↓y_lst, ↓y_tup, ↓y_mul, ↓y_fld, ↓y_meth, ↓y_prop, ↓y_isI, ↓y_mk, ↓y_bget, ↓y_sfor, ↓y_mdef, ↓y_oA, oAK_exc, oAK_nx, backOf_bl, backOf_nx, y_isiX, y_isiXt, ↓y_xf, y_xf1, eq_self, ↓y_par3, ↓parK3_ok, ↓y_cmS, ↓y_cmSK, ↓y_mkV, ↓y_mkVK, ↓y_isNon, ↓y_sl, ↓y_part, ↓y_no, ↓y_pi, ↓y_sll, ↓y_slt, ↓y_cat, ↓y_mbind, ↓y_obind, ↓obind_exc, ↓y_sof, ↓sof_exc, ↓seqk_nx, ↓seqk_ret, ↓seqk_bk, ↓seqk_ct, ↓seqk_exc, ↓noxk_ok, ↓gok_some, ↓parK_ok, ↓gcK_some, ↓retk_nx, ↓retk_ret, ↓retk_exc, ↓y_mret, y_obind, obind_exc, y_sof, sof_exc, seqk_nx, seqk_ret, seqk_bk, seqk_ct, seqk_exc, noxk_ok, gok_some, parK_ok, gcK_some, retk_nx, retk_ret, retk_exc, y_mret, ↓reduceIte, reduceIte, ↓y_set0, ↓y_setS, startL,
  int2c, mul_eq, fdv_eq, fdv_64, fmd_eq, ne_eq, not_false_eq_true, Int.reduceEq, Nat.reduceLeDiff, Int.reduceAdd, Int.reduceNeg, Int.reduceLT, Int.reduceLE, Int.reduceSub, Nat.reduceEqDiff, Nat.reduceLT, p9, p15, p18, p20, p30, p6, beq_self_eq_true, isNo, notNo, itemD, bagGet, bagPut, Pen.bget, Pen.bput, objPut, at0, at1, at2, isiA_int, isiA_bl, isiA_non, isiA_str, isiA_tup, isiA_lst, ii_int, ii_bool, ib_int, ib_bool, in_int, is_int, it_int, il_int, it_tuple, il_tuple, in_bool, is_bool, it_bool, il_bool,
  List.map_cons, List.map_nil, List.length_cons, List.length_nil, List.cons_append, List.nil_append, List.append_nil, List.getElem?_cons_zero, List.getElem?_cons_succ, List.replicate_succ, List.replicate_zero, Nat.reduceSub, Nat.reduceAdd, if_true, if_false, decide_eq_true_eq, Bool.not_eq_true', Bool.true_eq_false, Bool.false_eq_true, decide_true, decide_false, Bool.not_true, Bool.not_false, ite_true, ite_false, List.length_map, and_true, true_and, and_false, false_and, and_self, or_true, true_or, or_false, false_or, not_true_eq_false, Bool.not_eq_false, Bool.not_eq_true, decide_eq_false_iff_not, Int.sub_self, Bool.and_self, Bool.or_self, Bool.true_or, Bool.or_true, Bool.false_or, Bool.or_false, Bool.true_and, Bool.and_true, Bool.and_false, Bool.false_and, ↓zansE_6_9, ↓zansE_6_3, ↓zansE_1_9, ↓zansE_1_3, ↓zansE_2_9, ↓zansE_2_3, ↓zansE_8_9, ↓zansE_8_3, ↓zansE_9_9, ↓zansE_9_3, ↓zansE_5_9, ↓zansE_5_3, ↓zansE_3_9, ↓zansE_3_3, ↓zans_12_10, ↓zans_12_11, ↓zans_12_13, ↓zans_12_bool, ↓zans_12_int, ↓zans_12_list, ↓zans_12_tuple, ↓zans_10_10, ↓zans_10_11, ↓zans_10_13, ↓zans_10_bool, ↓zans_10_int, ↓zans_10_list, ↓zans_10_tuple, ↓zans_11_10, ↓zans_11_11, ↓zans_11_13, ↓zans_11_bool, ↓zans_11_int, ↓zans_11_list, ↓zans_11_tuple, ↓zans_13_10, ↓zans_13_11, ↓zans_13_13, ↓zans_13_bool, ↓zans_13_int, ↓zans_13_list, ↓zans_13_tuple, ↓zans_NoneType_10, ↓zans_NoneType_11, ↓zans_NoneType_13, ↓zans_14_10, ↓zans_14_11, ↓zans_14_13, ↓zans_14_bool, ↓zans_14_int, ↓zans_14_list, ↓zans_14_tuple, ↓zans_bool_10, ↓zans_bool_11, ↓zans_bool_13, ↓zans_int_10, ↓zans_int_11, ↓zans_int_13, ↓zans_list_10, ↓zans_list_11, ↓zans_list_13, ↓zans_str_10, ↓zans_str_11, ↓zans_str_13, ↓zans_tuple_10, ↓zans_tuple_11, ↓zans_tuple_13, ↓y_fldW, *])
/-! #### joints -/
structure Jt where
  xi : Int
  yi : Int
  xo : Int
  yo : Int
def dj (j : Jt) : D := .tup [.tup [.int j.xi, .int j.yi], .tup [.int j.xo, .int j.yo]]
def Far (x : Int) : Prop := -1000000 ≤ x ∧ x ≤ 1000000
def OkJ (j : Jt) : Prop := Far j.xi ∧ Far j.yi ∧ Far j.xo ∧ Far j.yo ∧ ¬ (j.xi = j.xo ∧ j.yi = j.yo)
def Ok (J : List Jt) : Prop := ∀ j ∈ J, OkJ j
def px (J : List Jt) (k : Nat) : Int := match J[k / 2]? with
  | some j => if k % 2 = 0 then j.xi else j.xo
  | none => 0
def py (J : List Jt) (k : Nat) : Int := match J[k / 2]? with
  | some j => if k % 2 = 0 then j.yi else j.yo
  | none => 0
theorem p_far {J : List Jt} (h : Ok J) (k : Nat) : Far (px J k) ∧ Far (py J k) := by
  unfold px py
  cases q : J[k / 2]? with
  | none => dsimp only; exact ⟨⟨by decide, by decide⟩, by decide, by decide⟩
  | some j =>
    obtain ⟨a, b, c, d, _⟩ := h j (List.mem_of_getElem? q)
    dsimp only
    split
    · exact ⟨a, b⟩
    · exact ⟨c, d⟩
theorem Far.small {x : Int} (h : Far x) : x.natAbs < 2 ^ 64 := by
  unfold Far at h
  omega
/-- side, moved, summed -/
def sd (k : Nat) : Int := if k % 2 = 0 then 1 else -1
structure T3 where
  t : Int
  a : Int
  u : Int
def T3.add (x y : T3) : T3 := ⟨x.t + y.t, x.a + y.a, x.u + y.u⟩
def cm (J : List Jt) (k : Nat) (n : Int) : T3 := ⟨sd k * n, sd k * n * py J k, -(sd k * n * px J k)⟩
def S (J : List Jt) : Nat → List Int → T3
  | _, [] => ⟨0, 0, 0⟩
  | k, n :: ns => (cm J k n).add (S J (k + 1) ns)
theorem T3.ext' {x y : T3} (h1 : x.t = y.t) (h2 : x.a = y.a) (h3 : x.u = y.u) : x = y := by
  cases x; cases y; cases h1; cases h2; cases h3; rfl
theorem add_assoc3 (x y z : T3) : (x.add y).add z = x.add (y.add z) := T3.ext' (Int.add_assoc ..) (Int.add_assoc ..) (Int.add_assoc ..)
theorem add_zero3 (x : T3) : x.add ⟨0, 0, 0⟩ = x := T3.ext' (Int.add_zero _) (Int.add_zero _) (Int.add_zero _)
theorem zero_add3 (x : T3) : T3.add ⟨0, 0, 0⟩ x = x := T3.ext' (Int.zero_add _) (Int.zero_add _) (Int.zero_add _)
theorem cm_zero (J : List Jt) (k : Nat) : cm J k 0 = ⟨0, 0, 0⟩ := by
  unfold cm
  rw [Int.mul_zero, Int.zero_mul, Int.zero_mul]; rfl
theorem S_zeros (J : List Jt) (ns : List Int) : ∀ (m k : Nat), S J k (List.replicate m 0 ++ ns) = S J (k + m) ns
  | 0, k => rfl
  | m + 1, k => by
    rw [List.replicate_succ, List.cons_append]
    show (cm J k 0).add (S J (k + 1) (List.replicate m 0 ++ ns)) = _
    rw [cm_zero, zero_add3, S_zeros J ns m (k + 1), show k + 1 + m = k + (m + 1) by omega]
/-- behind the first f stones -/
def V (J : List Jt) (ns : List Int) (f : Nat) : T3 := S J (2 * f) (ns.drop (2 * f))
theorem V_zero (J : List Jt) (ns : List Int) : V J ns 0 = S J 0 ns := rfl
theorem V_rest (J : List Jt) (ns : List Int) (f : Nat) : S J 0 (List.replicate (2 * f) 0 ++ ns.drop (2 * f)) = V J ns f := by
  rw [S_zeros, Nat.zero_add]; rfl
theorem V_last {J : List Jt} {ns : List Int} (h : ns.length = 2 * J.length) : V J ns J.length = ⟨0, 0, 0⟩ := by
  unfold V
  rw [List.drop_eq_nil_of_le (by omega)]; rfl
theorem V_step {J : List Jt} {ns : List Int} {f : Nat} {j : Jt} {n m : Int} (hj : J[f]? = some j) (hn : ns[2 * f]? = some n) (hm : ns[2 * f + 1]? = some m) : V J ns f = (S [j] 0 [n, m]).add (V J ns (f + 1)) := by
  unfold V
  have l1 : 2 * f < ns.length := (List.getElem?_eq_some_iff.mp hn).1
  have l2 : 2 * f + 1 < ns.length := (List.getElem?_eq_some_iff.mp hm).1
  have e1 : ns[2 * f] = n := (List.getElem?_eq_some_iff.mp hn).2
  have e2 : ns[2 * f + 1] = m := (List.getElem?_eq_some_iff.mp hm).2
  rw [List.drop_eq_getElem_cons l1, List.drop_eq_getElem_cons l2, e1, e2]
  show (cm J (2 * f) n).add ((cm J (2 * f + 1) m).add (S J (2 * f + 1 + 1) _)) = ((cm [j] 0 n).add ((cm [j] 1 m).add ⟨0, 0, 0⟩)).add _
  have c0 : cm J (2 * f) n = cm [j] 0 n := by
    unfold cm sd px py
    rw [show 2 * f / 2 = f by omega, hj, show 2 * f % 2 = 0 by omega]
    rfl
  have c1 : cm J (2 * f + 1) m = cm [j] 1 m := by
    unfold cm sd px py
    rw [show (2 * f + 1) / 2 = f by omega, hj, show (2 * f + 1) % 2 = 1 by omega]
    rfl
  rw [c0, c1, add_zero3, add_assoc3]
  rfl
def t3 (x : T3) : D := .tup [.int x.t, .int x.a, .int x.u]
def Mo (x : T3) : D := .ins 13 ["turn", "across", "up"] [.int x.t, .int x.a, .int x.u]
/-! #### the law's sums -/
theorem map_get {α : Type} {f : α → D} {l : List α} {i : Nat} {x : α} (h : l[i]? = some x) : (l.map f)[i]? = some (f x) := by
  rw [List.getElem?_map, h]; rfl
theorem fdv2 (k : Nat) : fdvI (.int (k : Nat)) (.int 2) = mret (.int ((k / 2 : Nat) : Int)) := by
  rw [fdv_eq (by decide) (by decide), Int.fdiv_eq_ediv_of_nonneg _ (by decide)]; rfl
theorem fmd2 (k : Nat) : fmdI (.int (k : Nat)) (.int 2) = mret (.int ((k % 2 : Nat) : Int)) := by
  rw [fmd_eq (by decide), Int.fmod_eq_emod_of_nonneg _ (by decide)]; rfl
theorem at_dj {J : List Jt} {k : Nat} (h : k < 2 * J.length) : ∃ x, atI (J.map dj) ((k / 2 : Nat) : Int) = some (.tup x) ∧ atI x ((k % 2 : Nat) : Int) = some (.tup [.int (px J k), .int (py J k)]) := by
  have hk : k / 2 < J.length := by omega
  have g : J[k / 2]? = some J[k / 2] := List.getElem?_eq_getElem hk
  refine ⟨_, atI_nat (map_get g), atI_nat ?_⟩
  unfold px py
  rw [g]
  dsimp only
  rcases Nat.mod_two_eq_zero_or_one k with h | h
  · rw [h]; rfl
  · rw [h]; rfl
theorem corner_eq {J : List Jt} {k : Nat} (h : k < 2 * J.length) : m__law_corner [.lst (J.map dj), .int (k : Nat)] = mret (.tup [.int (px J k), .int (py J k)]) := by
  obtain ⟨x, h1, h2⟩ := at_dj h
  have f1 := fdv2 k
  have f2 := fmd2 k
  clear h
  funext s
  refine mdef_ret ?_
  unfold b__law_corner
  walk_at "tw"
theorem side_if (k : Nat) : (if ((k % 2 : Nat) : Int) = 0 then (1 : Int) else -1) = sd k := by
  unfold sd
  rcases Nat.mod_two_eq_zero_or_one k with h | h <;> rw [h] <;> rfl
theorem mot_turn {J : List Jt} {N : D} {k : Nat} {n t a u : Int} {x5 x6 x7 x8 x9 : Option D} {s : Pen} (hJ : Ok J) (h : k < 2 * J.length) : lb__law_motion_0 [some (.lst (J.map dj)), some N, some (.int t), some (.int a), some (.int u), some (.int (k : Nat)), some (.int n), x7, x8, x9] s =
    .nx [some (.lst (J.map dj)), some N, some (.int (t + sd k * n)), some (.int (a + sd k * n * py J k)), some (.int (u - sd k * n * px J k)), some (.int (k : Nat)), some (.int n), some (.int (sd k)), some (.int (px J k)), some (.int (py J k))] s := by
  have c := corner_eq h
  have f2 := fmd2 k
  obtain ⟨fx, fy⟩ := p_far hJ k
  have m1 : mulOk (sd k) n = true := mulOk_l (by unfold sd; split <;> decide)
  have m2 : mulOk (sd k * n) (py J k) = true := mulOk_r fy.small
  have m3 : mulOk (sd k * n) (px J k) = true := mulOk_r fx.small
  have sdk : sasg (kIf (kB (kOp eqA (kOp fmdI (mvar 5) (kC (.int 2))) (kC (.int 0)))) (kC (.int 1)) (kUn negI (kC (.int 1)))) (gnm 7) [some (.lst (J.map dj)), some N, some (.int t), some (.int a), some (.int u), some (.int (k : Nat)), some (.int n), x7, some (.int (px J k)), some (.int (py J k))] s = .nx [some (.lst (J.map dj)), some N, some (.int t), some (.int a), some (.int u), some (.int (k : Nat)), some (.int n), some (.int (sd k)), some (.int (px J k)), some (.int (py J k))] s := by
    have q := side_if k
    by_cases z : ((k % 2 : Nat) : Int) = 0
    · rw [if_pos z] at q
      rw [← q]
      clear q m1 m2 m3 c
      walk_at "tw"
    · rw [if_neg z] at q
      rw [← q]
      clear q m1 m2 m3 c
      walk_at "tw"
  generalize px J k = X at *
  generalize py J k = Y at *
  clear fx fy h hJ f2
  generalize sd k = z at *
  unfold lb__law_motion_0
  rw [y_seq, show sasg (kCall m__law_corner (aCons (mvar 0) (aCons (mvar 5) aNil))) (gtm 2 (gcn (gnm 8) (gcn (gnm 9) gnl))) [some (.lst (J.map dj)), some N, some (.int t), some (.int a), some (.int u), some (.int (k : Nat)), some (.int n), x7, x8, x9] s = .nx [some (.lst (J.map dj)), some N, some (.int t), some (.int a), some (.int u), some (.int (k : Nat)), some (.int n), x7, some (.int X), some (.int Y)] s by walk_at "tw", seqk_nx, y_seq, sdk, seqk_nx]
  clear sdk c
  walk_at "tw"
theorem mot_loop {J : List Jt} {N : D} {s : Pen} (hJ : Ok J) : ∀ (ns : List Int) (k : Nat) (A : T3) (x5 x6 x7 x8 x9 : Option D), k + ns.length ≤ 2 * J.length → ∃ y5 y6 y7 y8 y9, sloop (gtm 2 (gcn (gnm 5) (gcn (gnm 6) gnl))) lb__law_motion_0 (numUp k (is ns)) [some (.lst (J.map dj)), some N, some (.int A.t), some (.int A.a), some (.int A.u), x5, x6, x7, x8, x9] s =
    .nx [some (.lst (J.map dj)), some N, some (.int (A.add (S J k ns)).t), some (.int (A.add (S J k ns)).a), some (.int (A.add (S J k ns)).u), y5, y6, y7, y8, y9] s
  | [], k, A, x5, x6, x7, x8, x9, _ => ⟨x5, x6, x7, x8, x9, by rw [show S J k [] = ⟨0, 0, 0⟩ from rfl, add_zero3]; rfl⟩
  | n :: ns, k, A, x5, x6, x7, x8, x9, h => by
    rw [List.length_cons] at h
    obtain ⟨y5, y6, y7, y8, y9, e⟩ := mot_loop hJ ns (k + 1) (A.add (cm J k n)) (some (.int (k : Nat))) (some (.int n)) (some (.int (sd k))) (some (.int (px J k))) (some (.int (py J k))) (by omega)
    refine ⟨y5, y6, y7, y8, y9, ?_⟩
    have h1 := mot_turn (N := N) (n := n) (t := A.t) (a := A.a) (u := A.u) (x5 := x5) (x6 := x6) (x7 := x7) (x8 := x8) (x9 := x9) (s := s) hJ (k := k) (by omega)
    rw [show S J k (n :: ns) = (cm J k n).add (S J (k + 1) ns) from rfl, ← add_assoc3]
    refine (sl_nx (d := .tup [.int (k : Nat), .int n]) (ρ1 := [some (.lst (J.map dj)), some N, some (.int A.t), some (.int A.a), some (.int A.u), some (.int (k : Nat)), some (.int n), x7, x8, x9]) rfl h1).trans ?_
    rw [show A.u - sd k * n * px J k = (A.add (cm J k n)).u from Int.sub_eq_add_neg]
    exact e
theorem motion_eq {J : List Jt} {ns : List Int} (hJ : Ok J) (h : ns.length ≤ 2 * J.length) : m__law_motion [.lst (J.map dj), .lst (is ns)] = mret (t3 (S J 0 ns)) := by
  funext s
  refine mdef_ret ?_
  obtain ⟨y5, y6, y7, y8, y9, e⟩ := mot_loop (N := .lst (is ns)) (s := s) hJ ns 0 ⟨0, 0, 0⟩ none none none none none (by omega)
  rw [zero_add3] at e
  unfold b__law_motion b__law_motion_0 b__law_motion_1 b__law_motion_2 t3
  generalize S J 0 ns = A at *
  clear h hJ
  walk_at "tw"
end K13

set_option Elab.async false
set_option linter.all false
set_option maxRecDepth 100000
set_option maxHeartbeats 4000000
set_option autoImplicit false
namespace K13
open PySem L2 Tw

local macro_rules | `(tactic| walk_at "sm") => `(tactic| first | assumption | exact Sm.lit200 (by decide) | (apply Sm.mul; walk_at "sm"; walk_at "sm") | (apply Sm.add2; walk_at "sm"; walk_at "sm") | (apply Sm.sub2; walk_at "sm"; walk_at "sm") | (apply Sm.neg; walk_at "sm"))
local macro_rules | `(tactic| walk_at "mo") => `(tactic| (apply mulOk_any; walk_at "sm"; walk_at "sm"; decide))
local macro_rules | `(tactic| walk_at "ds") => `(tactic| first | assumption | rfl | exact Nat.le_of_ble_eq_true rfl | walk_at "mo" | decide | omega)
local macro_rules | `(tactic| walk_at "tw") => `(tactic| simp (disch := walk_at "ds") only [↓y_nox, ↓y_seq, ↓y_mvZ, ↓y_mvS, ↓y_c, ↓y_op, ↓y_un, ↓y_b, ↓y_asB, ↓y_and, ↓y_or, ↓y_not, ↓y_andV, ↓y_orV, ↓y_notV, ↓y_ifE, ↓y_ch, ↓y_nil, ↓y_cons, ↓y_call, ↓y_callD, ↓y_iL, ↓y_iT, ↓y_asL, ↓y_asT, ↓y_iS, ↓y_asSl, ↓y_asSt, ↓y_iR1, ↓y_iR2, ↓y_iZ, ↓y_iN, ↓y_iOw, ↓y_zll, ↓y_zlt, ↓y_ztl, ↓y_ztt, ↓y_enl, ↓y_ent, ↓y_rng, ↓y_zNx, ↓y_zBk, ↓y_zCt, ↓y_ex, ↓y_ret, ↓y_retN, ↓y_if, ↓y_raise, ↓y_raiseN, ↓y_asg, ↓y_gnm, ↓y_par, ↓y_gcn, ↓y_gnl, ↓y_gtm2, ↓y_gtm3, ↓y_addI, ↓y_add, ↓y_sub, ↓y_neg, ↓y_lt, ↓y_le, ↓y_gt, ↓y_ge, ↓y_eqi, ↓y_eqb, ↓y_eqs, ↓y_nei, ↓y_neb, ↓y_nes, ↓y_isb, ↓y_nob, ↓y_lenl, ↓y_lent, ↓y_tuple_l, ↓y_tuple_t, ↓y_list_l, ↓y_list_t, ↓y_int, ↓y_abs, ↓y_gcd, ↓y_max2, ↓y_lst, ↓y_tup, ↓y_mul, ↓y_fld, ↓y_meth, ↓y_prop, ↓y_isI, ↓y_mk, ↓y_bget, ↓y_sfor, ↓y_mdef, ↓y_oA, oAK_exc, oAK_nx, backOf_bl, backOf_nx, y_isiX, y_isiXt, ↓y_xf, y_xf1, eq_self, ↓y_par3, ↓parK3_ok, ↓y_cmS, ↓y_cmSK, ↓y_mkV, ↓y_mkVK, ↓y_isNon, ↓y_sl, ↓y_part, ↓y_no, ↓y_pi, ↓y_sll, ↓y_slt, ↓y_cat, ↓y_mbind, ↓y_obind, ↓obind_exc, ↓y_sof, ↓sof_exc, ↓seqk_nx, ↓seqk_ret, ↓seqk_bk, ↓seqk_ct, ↓seqk_exc, ↓noxk_ok, ↓gok_some, ↓parK_ok, ↓gcK_some, ↓retk_nx, ↓retk_ret, ↓retk_exc, ↓y_mret, y_obind, obind_exc, y_sof, sof_exc, seqk_nx, seqk_ret, seqk_bk, seqk_ct, seqk_exc, noxk_ok, gok_some, parK_ok, gcK_some, retk_nx, retk_ret, retk_exc, y_mret, ↓reduceIte, reduceIte, ↓y_set0, ↓y_setS, startL,
  int2c, mul_eq, fdv_eq, fdv_64, fmd_eq, ne_eq, not_false_eq_true, Int.reduceEq, Nat.reduceLeDiff, Int.reduceAdd, Int.reduceNeg, Int.reduceLT, Int.reduceLE, Int.reduceSub, Nat.reduceEqDiff, Nat.reduceLT, p9, p15, p18, p20, p30, p6, beq_self_eq_true, isNo, notNo, itemD, bagGet, bagPut, Pen.bget, Pen.bput, objPut, at0, at1, at2, isiA_int, isiA_bl, isiA_non, isiA_str, isiA_tup, isiA_lst, ii_int, ii_bool, ib_int, ib_bool, in_int, is_int, it_int, il_int, it_tuple, il_tuple, in_bool, is_bool, it_bool, il_bool,
  List.map_cons, List.map_nil, List.length_cons, List.length_nil, List.cons_append, List.nil_append, List.append_nil, List.getElem?_cons_zero, List.getElem?_cons_succ, List.replicate_succ, List.replicate_zero, Nat.reduceSub, Nat.reduceAdd, if_true, if_false, decide_eq_true_eq, Bool.not_eq_true', Bool.true_eq_false, Bool.false_eq_true, decide_true, decide_false, Bool.not_true, Bool.not_false, ite_true, ite_false, List.length_map, and_true, true_and, and_false, false_and, and_self, or_true, true_or, or_false, false_or, not_true_eq_false, Bool.not_eq_false, Bool.not_eq_true, decide_eq_false_iff_not, Int.sub_self, Bool.and_self, Bool.or_self, Bool.true_or, Bool.or_true, Bool.false_or, Bool.or_false, Bool.true_and, Bool.and_true, Bool.and_false, Bool.false_and, ↓zansE_6_9, ↓zansE_6_3, ↓zansE_1_9, ↓zansE_1_3, ↓zansE_2_9, ↓zansE_2_3, ↓zansE_8_9, ↓zansE_8_3, ↓zansE_9_9, ↓zansE_9_3, ↓zansE_5_9, ↓zansE_5_3, ↓zansE_3_9, ↓zansE_3_3, ↓zans_12_10, ↓zans_12_11, ↓zans_12_13, ↓zans_12_bool, ↓zans_12_int, ↓zans_12_list, ↓zans_12_tuple, ↓zans_10_10, ↓zans_10_11, ↓zans_10_13, ↓zans_10_bool, ↓zans_10_int, ↓zans_10_list, ↓zans_10_tuple, ↓zans_11_10, ↓zans_11_11, ↓zans_11_13, ↓zans_11_bool, ↓zans_11_int, ↓zans_11_list, ↓zans_11_tuple, ↓zans_13_10, ↓zans_13_11, ↓zans_13_13, ↓zans_13_bool, ↓zans_13_int, ↓zans_13_list, ↓zans_13_tuple, ↓zans_NoneType_10, ↓zans_NoneType_11, ↓zans_NoneType_13, ↓zans_14_10, ↓zans_14_11, ↓zans_14_13, ↓zans_14_bool, ↓zans_14_int, ↓zans_14_list, ↓zans_14_tuple, ↓zans_bool_10, ↓zans_bool_11, ↓zans_bool_13, ↓zans_int_10, ↓zans_int_11, ↓zans_int_13, ↓zans_list_10, ↓zans_list_11, ↓zans_list_13, ↓zans_str_10, ↓zans_str_11, ↓zans_str_13, ↓zans_tuple_10, ↓zans_tuple_11, ↓zans_tuple_13, ↓y_fldW, *])
theorem at_eq {A0 A1 A2 x y : Int} (hx : Far x) (hy : Far y) : m__law_at [.tup [.int A0, .int A1, .int A2], .tup [.int x, .int y]] = mret (.tup [.int (A1 - A0 * y), .int (A2 + A0 * x)]) := by
  have m1 : mulOk A0 y = true := mulOk_r hy.small
  have m2 : mulOk A0 x = true := mulOk_r hx.small
  clear hx hy
  funext s
  refine mdef_ret ?_
  unfold b__law_at
  walk_at "tw"
theorem S2 (j : Jt) (n m : Int) : S [j] 0 [n, m] = ⟨n - m, n * j.yi - m * j.yo, m * j.xo - n * j.xi⟩ := by
  have a : S [j] 0 [n, m] = (cm [j] 0 n).add ((cm [j] 1 m).add ⟨0, 0, 0⟩) := rfl
  rw [a, add_zero3]
  refine T3.ext' ?_ ?_ ?_
  · show (1 : Int) * n + (-1) * m = n - m
    omega
  · show (1 : Int) * n * j.yi + (-1) * m * j.yo = n * j.yi - m * j.yo
    rw [Int.one_mul, Int.neg_mul, Int.one_mul, Int.neg_mul, Int.sub_eq_add_neg]
  · show -((1 : Int) * n * j.xi) + -((-1) * m * j.xo) = m * j.xo - n * j.xi
    rw [Int.one_mul, Int.neg_mul, Int.one_mul, Int.neg_mul, Int.neg_neg]
    omega
theorem pos_turn {n x y : Int} (hn : 0 < n) (h : ¬ (x = 0 ∧ y = 0)) : 0 < n * (y * y + x * x) := by
  refine Int.mul_pos hn ?_
  have a : 0 ≤ x * x := by
    rcases Int.le_total 0 x with q | q
    · exact Int.mul_nonneg q q
    · have := Int.mul_nonneg (show 0 ≤ -x by omega) (show 0 ≤ -x by omega)
      rwa [Int.neg_mul_neg] at this
  have b : 0 ≤ y * y := by
    rcases Int.le_total 0 y with q | q
    · exact Int.mul_nonneg q q
    · have := Int.mul_nonneg (show 0 ≤ -y by omega) (show 0 ≤ -y by omega)
      rwa [Int.neg_mul_neg] at this
  by_cases hx : x = 0
  · have hy : y ≠ 0 := fun q => h ⟨hx, q⟩
    have : y * y ≠ 0 := fun q => by rcases Int.mul_eq_zero.mp q with q | q <;> exact hy q
    omega
  · have : x * x ≠ 0 := fun q => by rcases Int.mul_eq_zero.mp q with q | q <;> exact hx q
    omega
theorem opens_core {J : List Jt} {j : Jt} {f : Nat} {ns : List Int} {n m pt pa pu qt qa qu : Int} (hj : J[f]? = some j) (ho : OkJ j) (hn : ns[2 * f]? = some n) (hm : ns[2 * f + 1]? = some m) (n0 : 0 ≤ n) (m0 : 0 ≤ m)
    (e1 : pt - qt = n - m) (e2 : pa - qa = n * j.yi - m * j.yo) (e3 : pu - qu = m * j.xo - n * j.xi) :
    m__law_joint_opens [.lst (J.map dj), .int (f : Nat), .lst (is ns), .tup [.int pt, .int pa, .int pu], .tup [.int qt, .int qa, .int qu]] = mret (.bl true) := by
  obtain ⟨xi, yi, xo, yo⟩ := j
  obtain ⟨o1, o2, o3, o4, o5⟩ := ho
  dsimp only at o1 o2 o3 o4 o5 e2 e3
  have a1 : atI (J.map dj) ((f : Nat) : Int) = some (.tup [.tup [.int xi, .int yi], .tup [.int xo, .int yo]]) := atI_nat (map_get hj)
  have a2 : atI (is ns) (2 * ((f : Nat) : Int)) = some (.int n) := by
    have z := at_is hn
    rwa [show ((2 * f : Nat) : Int) = 2 * ((f : Nat) : Int) by omega] at z
  have a3 : atI (is ns) (2 * ((f : Nat) : Int) + 1) = some (.int m) := by
    have z := at_is hm
    rwa [show ((2 * f + 1 : Nat) : Int) = 2 * ((f : Nat) : Int) + 1 by omega] at z
  have mf : mulOk 2 ((f : Nat) : Int) = true := mulOk_l (by decide)
  have mo : m__law_motion [.lst [.tup [.tup [.int xi, .int yi], .tup [.int xo, .int yo]]], .lst [.int n, .int m]] = mret (.tup [.int (n - m), .int (n * yi - m * yo), .int (m * xo - n * xi)]) := by
    have z := motion_eq (J := [⟨xi, yi, xo, yo⟩]) (ns := [n, m]) (fun j hj => by rw [List.mem_singleton.mp hj]; exact ⟨o1, o2, o3, o4, o5⟩) (Nat.le_refl 2)
    rw [S2] at z
    exact z
  have ne : neA (.tup [.int (n - m), .int (n * yi - m * yo), .int (m * xo - n * xi)]) (.tup [.int (n - m), .int (n * yi - m * yo), .int (m * xo - n * xi)]) = mret (.bl false) := by
    have z := neT [n - m, n * yi - m * yo, m * xo - n * xi] [n - m, n * yi - m * yo, m * xo - n * xi]
    rw [decide_eq_true rfl] at z
    exact z
  have wsm : ∀ {x y : Int}, Far x → Far y → (x - y).natAbs < 2 ^ 64 := fun {x y} hx hy => by unfold Far at hx hy; omega
  funext s
  refine mdef_ret ?_
  unfold b__law_joint_opens b__law_joint_opens_0 b__law_joint_opens_1 b__law_joint_opens_2 b__law_joint_opens_3 b__law_joint_opens_4 b__law_joint_opens_5 b__law_joint_opens_6 b__law_joint_opens_7 b__law_joint_opens_8
  by_cases zn : n = 0
  · by_cases zm : m = 0
    · have z : eqA (.tup [.int (n - m), .int (n * yi - m * yo), .int (m * xo - n * xi)]) (.tup [.int 0, .int 0, .int 0]) = mret (.bl true) := by
        rw [eqT3, zn, zm, Int.zero_mul, Int.zero_mul, Int.zero_mul, Int.zero_mul]; rfl
      have zn' : (n = 0) = True := eq_true zn
      have zm' : (m = 0) = True := eq_true zm
      clear zn zm o1 o2 o3 o4 o5 hj hn hm n0 m0 wsm
      walk_at "tw"
    · have hin : m__law_at [.tup [.int pt, .int pa, .int pu], .tup [.int xo, .int yo]] = mret (.tup [.int (pa - pt * yo), .int (pu + pt * xo)]) := at_eq o3 o4
      have hin2 : m__law_at [.tup [.int qt, .int qa, .int qu], .tup [.int xo, .int yo]] = mret (.tup [.int (qa - qt * yo), .int (qu + qt * xo)]) := at_eq o3 o4
      have far : m__law_at [.tup [.int (n - m), .int (n * yi - m * yo), .int (m * xo - n * xi)], .tup [.int xi, .int yi]] = mret (.tup [.int ((n * yi - m * yo) - (n - m) * yi), .int ((m * xo - n * xi) + (n - m) * xi)]) := at_eq o1 o2
      have s1 : pa - pt * yo = qa - qt * yo := by
        have h1 : pa = qa + (n * yi - m * yo) := by omega
        have h2 : pt = qt + (n - m) := by omega
        rw [h1, h2, zn]; grind
      have s2 : pu + pt * xo = qu + qt * xo := by
        have h1 : pu = qu + (m * xo - n * xi) := by omega
        have h2 : pt = qt + (n - m) := by omega
        rw [h1, h2, zn]; grind
      have same : neA (.tup [.int (pa - pt * yo), .int (pu + pt * xo)]) (.tup [.int (qa - qt * yo), .int (qu + qt * xo)]) = mret (.bl false) := by
        rw [neT2, s1, s2]; simp
      have m1 : mulOk ((n * yi - m * yo) - (n - m) * yi) (yo - yi) = true := mulOk_r (wsm o4 o2)
      have m2 : mulOk ((m * xo - n * xi) + (n - m) * xi) (xo - xi) = true := mulOk_r (wsm o3 o1)
      have m3 : mulOk ((n * yi - m * yo) - (n - m) * yi) (xo - xi) = true := mulOk_r (wsm o3 o1)
      have m4 : mulOk ((m * xo - n * xi) + (n - m) * xi) (yo - yi) = true := mulOk_r (wsm o4 o2)
      have p := pos_turn (n := m) (x := xo - xi) (y := yo - yi) (by omega) (fun q => o5 ⟨by omega, by omega⟩)
      have lt : ((n * yi - m * yo) - (n - m) * yi) * (yo - yi) - ((m * xo - n * xi) + (n - m) * xi) * (xo - xi) < 0 := by
        have z : ((n * yi - m * yo) - (n - m) * yi) * (yo - yi) - ((m * xo - n * xi) + (n - m) * xi) * (xo - xi) = -(m * ((yo - yi) * (yo - yi) + (xo - xi) * (xo - xi))) := by grind
        omega
      have eq0 : ((n * yi - m * yo) - (n - m) * yi) * (xo - xi) + ((m * xo - n * xi) + (n - m) * xi) * (yo - yi) = 0 := by grind
      generalize ((n * yi - m * yo) - (n - m) * yi) = A at *
      generalize ((m * xo - n * xi) + (n - m) * xi) = B at *
      generalize pa - pt * yo = P1 at *
      generalize pu + pt * xo = P2 at *
      generalize qa - qt * yo = Q1 at *
      generalize qu + qt * xo = Q2 at *
      generalize n * yi - m * yo = R1 at *
      generalize m * xo - n * xi = R2 at *
      have zn' : (n = 0) = True := eq_true zn
      have zm' : (m = 0) = False := eq_false zm
      clear zn zm o1 o2 o3 o4 o5 hj hn hm n0 m0 p s1 s2 wsm
      walk_at "tw"
  · by_cases zm : m = 0
    · have hin : m__law_at [.tup [.int pt, .int pa, .int pu], .tup [.int xi, .int yi]] = mret (.tup [.int (pa - pt * yi), .int (pu + pt * xi)]) := at_eq o1 o2
      have hin2 : m__law_at [.tup [.int qt, .int qa, .int qu], .tup [.int xi, .int yi]] = mret (.tup [.int (qa - qt * yi), .int (qu + qt * xi)]) := at_eq o1 o2
      have far : m__law_at [.tup [.int (n - m), .int (n * yi - m * yo), .int (m * xo - n * xi)], .tup [.int xo, .int yo]] = mret (.tup [.int ((n * yi - m * yo) - (n - m) * yo), .int ((m * xo - n * xi) + (n - m) * xo)]) := at_eq o3 o4
      have s1 : pa - pt * yi = qa - qt * yi := by
        have h1 : pa = qa + (n * yi - m * yo) := by omega
        have h2 : pt = qt + (n - m) := by omega
        rw [h1, h2, zm]; grind
      have s2 : pu + pt * xi = qu + qt * xi := by
        have h1 : pu = qu + (m * xo - n * xi) := by omega
        have h2 : pt = qt + (n - m) := by omega
        rw [h1, h2, zm]; grind
      have same : neA (.tup [.int (pa - pt * yi), .int (pu + pt * xi)]) (.tup [.int (qa - qt * yi), .int (qu + qt * xi)]) = mret (.bl false) := by
        rw [neT2, s1, s2]; simp
      have m1 : mulOk ((n * yi - m * yo) - (n - m) * yo) (yo - yi) = true := mulOk_r (wsm o4 o2)
      have m2 : mulOk ((m * xo - n * xi) + (n - m) * xo) (xo - xi) = true := mulOk_r (wsm o3 o1)
      have m3 : mulOk ((n * yi - m * yo) - (n - m) * yo) (xo - xi) = true := mulOk_r (wsm o3 o1)
      have m4 : mulOk ((m * xo - n * xi) + (n - m) * xo) (yo - yi) = true := mulOk_r (wsm o4 o2)
      have p := pos_turn (n := n) (x := xo - xi) (y := yo - yi) (by omega) (fun q => o5 ⟨by omega, by omega⟩)
      have lt : ((n * yi - m * yo) - (n - m) * yo) * (yo - yi) - ((m * xo - n * xi) + (n - m) * xo) * (xo - xi) < 0 := by
        have z : ((n * yi - m * yo) - (n - m) * yo) * (yo - yi) - ((m * xo - n * xi) + (n - m) * xo) * (xo - xi) = -(n * ((yo - yi) * (yo - yi) + (xo - xi) * (xo - xi))) := by grind
        omega
      have eq0 : ((n * yi - m * yo) - (n - m) * yo) * (xo - xi) + ((m * xo - n * xi) + (n - m) * xo) * (yo - yi) = 0 := by grind
      generalize ((n * yi - m * yo) - (n - m) * yo) = A at *
      generalize ((m * xo - n * xi) + (n - m) * xo) = B at *
      generalize pa - pt * yi = P1 at *
      generalize pu + pt * xi = P2 at *
      generalize qa - qt * yi = Q1 at *
      generalize qu + qt * xi = Q2 at *
      generalize n * yi - m * yo = R1 at *
      generalize m * xo - n * xi = R2 at *
      have zn' : (n = 0) = False := eq_false zn
      have zm' : (m = 0) = True := eq_true zm
      clear zn zm o1 o2 o3 o4 o5 hj hn hm n0 m0 p s1 s2 wsm
      walk_at "tw"
    · have zn' : (n = 0) = False := eq_false zn
      have zm' : (m = 0) = False := eq_false zm
      clear zn zm o1 o2 o3 o4 o5 hj hn hm n0 m0 wsm
      walk_at "tw"
end K13

set_option Elab.async false
set_option linter.all false
set_option maxRecDepth 100000
set_option maxHeartbeats 4000000
set_option autoImplicit false
namespace K13
open PySem L2 Tw

theorem y_Mt (A : T3) (s : Pen) : fldD cf_turn "turn" (Mo A) s = .ok (.int A.t) s := nr rfl
theorem y_Ma (A : T3) (s : Pen) : fldD cf_across "across" (Mo A) s = .ok (.int A.a) s := nr rfl
theorem y_Mu (A : T3) (s : Pen) : fldD cf_up "up" (Mo A) s = .ok (.int A.u) s := nr rfl
theorem y_Mi (A : T3) (s : Pen) : isiA ans [Mo A, .cls 13] s = .ok (.bl true) s := nr rfl
local macro_rules | `(tactic| walk_at "sm") => `(tactic| first | assumption | exact Sm.lit200 (by decide) | (apply Sm.mul; walk_at "sm"; walk_at "sm") | (apply Sm.add2; walk_at "sm"; walk_at "sm") | (apply Sm.sub2; walk_at "sm"; walk_at "sm") | (apply Sm.neg; walk_at "sm"))
local macro_rules | `(tactic| walk_at "mo") => `(tactic| (apply mulOk_any; walk_at "sm"; walk_at "sm"; decide))
local macro_rules | `(tactic| walk_at "ds") => `(tactic| first | assumption | rfl | exact Nat.le_of_ble_eq_true rfl | walk_at "mo" | decide | omega)
local macro_rules | `(tactic| walk_at "tw") => `(tactic| simp (disch := walk_at "ds") only [↓y_nox, ↓y_seq, ↓y_mvZ, ↓y_mvS, ↓y_c, ↓y_op, ↓y_un, ↓y_b, ↓y_asB, ↓y_and, ↓y_or, ↓y_not, ↓y_andV, ↓y_orV, ↓y_notV, ↓y_ifE, ↓y_ch, ↓y_nil, ↓y_cons, ↓y_call, ↓y_callD, ↓y_iL, ↓y_iT, ↓y_asL, ↓y_asT, ↓y_iS, ↓y_asSl, ↓y_asSt, ↓y_iR1, ↓y_iR2, ↓y_iZ, ↓y_iN, ↓y_iOw, ↓y_zll, ↓y_zlt, ↓y_ztl, ↓y_ztt, ↓y_enl, ↓y_ent, ↓y_rng, ↓y_zNx, ↓y_zBk, ↓y_zCt, ↓y_ex, ↓y_ret, ↓y_retN, ↓y_if, ↓y_raise, ↓y_raiseN, ↓y_asg, ↓y_gnm, ↓y_par, ↓y_gcn, ↓y_gnl, ↓y_gtm2, ↓y_gtm3, ↓y_addI, ↓y_add, ↓y_sub, ↓y_neg, ↓y_lt, ↓y_le, ↓y_gt, ↓y_ge, ↓y_eqi, ↓y_eqb, ↓y_eqs, ↓y_nei, ↓y_neb, ↓y_nes, ↓y_isb, ↓y_nob, ↓y_lenl, ↓y_lent, ↓y_tuple_l, ↓y_tuple_t, ↓y_list_l, ↓y_list_t, ↓y_int, ↓y_abs, ↓y_gcd, ↓y_max2, ↓y_lst, ↓y_tup, ↓y_mul, ↓y_fld, ↓y_meth, ↓y_prop, ↓y_isI, ↓y_mk, ↓y_bget, ↓y_sfor, ↓y_mdef, ↓y_oA, oAK_exc, oAK_nx, backOf_bl, backOf_nx, y_isiX, y_isiXt, ↓y_xf, y_xf1, eq_self, ↓y_par3, ↓parK3_ok, ↓y_cmS, ↓y_cmSK, ↓y_mkV, ↓y_mkVK, ↓y_isNon, ↓y_sl, ↓y_part, ↓y_no, ↓y_pi, ↓y_sll, ↓y_slt, ↓y_cat, ↓y_mbind, ↓y_obind, ↓obind_exc, ↓y_sof, ↓sof_exc, ↓seqk_nx, ↓seqk_ret, ↓seqk_bk, ↓seqk_ct, ↓seqk_exc, ↓noxk_ok, ↓gok_some, ↓parK_ok, ↓gcK_some, ↓retk_nx, ↓retk_ret, ↓retk_exc, ↓y_mret, y_obind, obind_exc, y_sof, sof_exc, seqk_nx, seqk_ret, seqk_bk, seqk_ct, seqk_exc, noxk_ok, gok_some, parK_ok, gcK_some, retk_nx, retk_ret, retk_exc, y_mret, ↓reduceIte, reduceIte, ↓y_set0, ↓y_setS, startL,
  int2c, mul_eq, fdv_eq, fdv_64, fmd_eq, ne_eq, not_false_eq_true, Int.reduceEq, Nat.reduceLeDiff, Int.reduceAdd, Int.reduceNeg, Int.reduceLT, Int.reduceLE, Int.reduceSub, Nat.reduceEqDiff, Nat.reduceLT, p9, p15, p18, p20, p30, p6, beq_self_eq_true, isNo, notNo, itemD, bagGet, bagPut, Pen.bget, Pen.bput, objPut, at0, at1, at2, isiA_int, isiA_bl, isiA_non, isiA_str, isiA_tup, isiA_lst, ii_int, ii_bool, ib_int, ib_bool, in_int, is_int, it_int, il_int, it_tuple, il_tuple, in_bool, is_bool, it_bool, il_bool,
  List.map_cons, List.map_nil, List.length_cons, List.length_nil, List.cons_append, List.nil_append, List.append_nil, List.getElem?_cons_zero, List.getElem?_cons_succ, List.replicate_succ, List.replicate_zero, Nat.reduceSub, Nat.reduceAdd, if_true, if_false, decide_eq_true_eq, Bool.not_eq_true', Bool.true_eq_false, Bool.false_eq_true, decide_true, decide_false, Bool.not_true, Bool.not_false, ite_true, ite_false, List.length_map, and_true, true_and, and_false, false_and, and_self, or_true, true_or, or_false, false_or, not_true_eq_false, Bool.not_eq_false, Bool.not_eq_true, decide_eq_false_iff_not, Int.sub_self, Bool.and_self, Bool.or_self, Bool.true_or, Bool.or_true, Bool.false_or, Bool.or_false, Bool.true_and, Bool.and_true, Bool.and_false, Bool.false_and, ↓zansE_6_9, ↓zansE_6_3, ↓zansE_1_9, ↓zansE_1_3, ↓zansE_2_9, ↓zansE_2_3, ↓zansE_8_9, ↓zansE_8_3, ↓zansE_9_9, ↓zansE_9_3, ↓zansE_5_9, ↓zansE_5_3, ↓zansE_3_9, ↓zansE_3_3, ↓zans_12_10, ↓zans_12_11, ↓zans_12_13, ↓zans_12_bool, ↓zans_12_int, ↓zans_12_list, ↓zans_12_tuple, ↓zans_10_10, ↓zans_10_11, ↓zans_10_13, ↓zans_10_bool, ↓zans_10_int, ↓zans_10_list, ↓zans_10_tuple, ↓zans_11_10, ↓zans_11_11, ↓zans_11_13, ↓zans_11_bool, ↓zans_11_int, ↓zans_11_list, ↓zans_11_tuple, ↓zans_13_10, ↓zans_13_11, ↓zans_13_13, ↓zans_13_bool, ↓zans_13_int, ↓zans_13_list, ↓zans_13_tuple, ↓zans_NoneType_10, ↓zans_NoneType_11, ↓zans_NoneType_13, ↓zans_14_10, ↓zans_14_11, ↓zans_14_13, ↓zans_14_bool, ↓zans_14_int, ↓zans_14_list, ↓zans_14_tuple, ↓zans_bool_10, ↓zans_bool_11, ↓zans_bool_13, ↓zans_int_10, ↓zans_int_11, ↓zans_int_13, ↓zans_list_10, ↓zans_list_11, ↓zans_list_13, ↓zans_str_10, ↓zans_str_11, ↓zans_str_13, ↓zans_tuple_10, ↓zans_tuple_11, ↓zans_tuple_13, ↓y_fldW, ↓y_Mt, ↓y_Ma, ↓y_Mu, ↓y_Mi, *])
theorem plain_eq (A : T3) : m__law_plain [Mo A] = mret (t3 A) := by
  funext s
  refine mdef_ret ?_
  have l : ∀ (x : Option D) (i : Int), lb__law_plain_0 [some (Mo A), some (.int i)] s = .nx [some (Mo A), some (.int i)] s := fun x i => by
    unfold lb__law_plain_0
    walk_at "tw"
  have e : sloop (gnm 1) lb__law_plain_0 [.int A.t, .int A.a, .int A.u] [some (Mo A), none] s = .nx [some (Mo A), some (.int A.u)] s := by
    rw [sl_nx (ρ1 := [some (Mo A), some (.int A.t)]) rfl (l none _), sl_nx (ρ1 := [some (Mo A), some (.int A.a)]) rfl (l none _), sl_nx (ρ1 := [some (Mo A), some (.int A.u)]) rfl (l none _)]
    rfl
  clear l
  unfold b__law_plain b__law_plain_0 b__law_plain_1 b__law_plain_2 t3
  walk_at "tw"
def told (J : List Jt) (ns : List Int) : List D := (List.range (J.length - 1)).map fun i => Mo (V J ns (i + 1))
def vs (J : List Jt) (ns : List Int) : List T3 := (List.range (J.length + 1)).map (V J ns)
def unMo : D → D
  | .ins _ _ xs => .tup xs
  | d => d
theorem vs_eq {J : List Jt} {ns : List Int} (h : ns.length = 2 * J.length) (h1 : 1 ≤ J.length) : t3 (V J ns 0) :: ((told J ns).map unMo ++ [.tup [.int 0, .int 0, .int 0]]) = (vs J ns).map t3 := by
  unfold vs told
  obtain ⟨L, hL⟩ : ∃ L, J.length = L + 1 := ⟨J.length - 1, by omega⟩
  have hl := V_last h
  rw [hL] at hl ⊢
  rw [List.range_succ_eq_map, List.map_cons, List.map_cons, Nat.add_sub_cancel]
  congr 1
  rw [List.range_succ, List.map_append, List.map_append, List.map_append, List.map_map, List.map_map, List.map_map, List.map_map]
  congr 1
  show [D.tup [.int 0, .int 0, .int 0]] = [t3 (V J ns (L + 1))]
  rw [hl]; rfl
theorem vs_get {J : List Jt} {ns : List Int} {f : Nat} (h : f ≤ J.length) : atI ((vs J ns).map t3) ((f : Nat) : Int) = some (t3 (V J ns f)) := by
  refine atI_nat (map_get ?_)
  unfold vs
  rw [List.getElem?_map, List.getElem?_range (by omega)]; rfl
def p3 (A : T3) : PyData := .tuple [.int A.t, .int A.a, .int A.u]
theorem toPL_t3 : ∀ l : List T3, toPL (l.map t3) = some (l.map p3)
  | [] => rfl
  | A :: l => by
    show (match toP (t3 A), toPL (l.map t3) with | some x, some xs => some (x :: xs) | _, _ => none) = _
    rw [toPL_t3 l]; rfl
theorem lay_t3 : ∀ l : List T3, PyData.canLayAll0 (l.map p3) = true
  | [] => rfl
  | A :: l => lay_t3 l
theorem dep_t3 : ∀ l : List T3, PyData.depthAll (l.map p3) ≤ 2
  | [] => by decide
  | A :: l => by
    show max (p3 A).depth (PyData.depthAll (l.map p3)) ≤ 2
    exact Nat.max_le.mpr ⟨by show max 0 (max 0 (max 0 0)) + 1 ≤ 2; decide, dep_t3 l⟩
theorem none_in (l : List T3) : inA false .non (.lst (l.map t3)) = mret (.bl false) := by
  have sh : SeqAt.shaped (.list (l.map p3)) = true := by
    unfold SeqAt.shaped
    have a : (PyData.list (l.map p3)).canLay0 = true := lay_t3 l
    have b : (PyData.list (l.map p3)).depth ≤ 64 := by
      show PyData.depthAll (l.map p3) + 1 ≤ 64
      have := dep_t3 l
      omega
    rw [a, decide_eq_true b]; rfl
  have an : (l.map p3).any (fun z => PyData.eqv z PyData.none) = false := by
    rw [List.any_map, List.any_eq_false]
    intro A _
    intro h
    cases (show false = true from h)
  show (match toPL (l.map t3) with | some ds => if (SeqAt.shaped PyData.none && SeqAt.shaped (.list ds)) = true then (mret (.bl (false ^^ ds.any fun z => PyData.eqv z PyData.none)) : M D) else mbad | none => mbad) = _
  rw [toPL_t3]
  dsimp only
  rw [sh, an]; rfl
theorem ne_t3 (A : T3) : neA (t3 A) (t3 A) = mret (.bl false) := by
  have z := neT [A.t, A.a, A.u] [A.t, A.a, A.u]
  rw [decide_eq_true rfl] at z
  exact z
theorem cut_drop {xs : List D} {k : Nat} (h : k ≤ xs.length) : cutD xs (some (k : Nat)) none = xs.drop k := by
  unfold cutD
  rw [HT.sIx_nat, HT.sIx_none, Nat.min_eq_left h, List.take_of_length_le (by rw [List.length_drop]; exact Nat.le_refl _)]
theorem is_drop (ns : List Int) (k : Nat) : (is ns).drop k = is (ns.drop k) := (List.map_drop ..).symm
theorem is_app (a b : List Int) : is a ++ is b = is (a ++ b) := (List.map_append ..).symm
theorem opens_eq {J : List Jt} {ns : List Int} {f : Nat} (hJ : Ok J) (hl : ns.length = 2 * J.length) (hn : ∀ n ∈ ns, 0 ≤ n) (hf : f < J.length) : m__law_joint_opens [.lst (J.map dj), .int (f : Nat), .lst (is ns), t3 (V J ns f), t3 (V J ns (f + 1))] = mret (.bl true) := by
  have gj : J[f]? = some J[f] := List.getElem?_eq_getElem hf
  have g1 : ns[2 * f]? = some (ns[2 * f]'(by omega)) := List.getElem?_eq_getElem (by omega)
  have g2 : ns[2 * f + 1]? = some (ns[2 * f + 1]'(by omega)) := List.getElem?_eq_getElem (by omega)
  have st := V_step gj g1 g2
  rw [S2] at st
  have e1 := congrArg T3.t st
  have e2 := congrArg T3.a st
  have e3 := congrArg T3.u st
  unfold T3.add at e1 e2 e3
  dsimp only at e1 e2 e3
  exact opens_core gj (hJ _ (List.getElem_mem hf)) g1 g2 (hn _ (List.getElem_mem _)) (hn _ (List.getElem_mem _)) (by omega) (by omega) (by omega)
theorem all_eq {J : List Jt} {ns : List Int} (hJ : Ok J) (hl : ns.length = 2 * J.length) (hn : ∀ n ∈ ns, 0 ≤ n) (h1 : 1 ≤ J.length) (h9 : J.length ≤ 9) : m__law_all [.lst (J.map dj), .lst (is ns), .tup (told J ns), Mo (S J 0 ns)] = mret (.bl true) := by
  funext s
  refine mdef_ret ?_
  have tl : (told J ns).length = J.length - 1 := by unfold told; rw [List.length_map, List.length_range]
  have e0 : b__law_all_0 [some (.lst (J.map dj)), some (.lst (is ns)), some (.tup (told J ns)), some (Mo (S J 0 ns)), none, none, none, none, none] s = .nx [some (.lst (J.map dj)), some (.lst (is ns)), some (.tup (told J ns)), some (Mo (S J 0 ns)), none, none, none, none, none] s := by
    have q : ((told J ns).length : Int) = (J.length : Nat) - 1 := by rw [tl]; omega
    unfold b__law_all_0
    clear hl h1 h9 tl
    walk_at "tw"
  have e1 : b__law_all_1 [some (.lst (J.map dj)), some (.lst (is ns)), some (.tup (told J ns)), some (Mo (S J 0 ns)), none, none, none, none, none] s = .nx [some (.lst (J.map dj)), some (.lst (is ns)), some (.tup (told J ns)), some (Mo (S J 0 ns)), some (.lst ((vs J ns).map t3)), none, none, none, none] s := by
    have c : kLc (iT (mvar 2)) (gnm 8) (fun _ => mret true) (kCall m__law_plain (aCons (mvar 8) aNil)) [8] [some (.lst (J.map dj)), some (.lst (is ns)), some (.tup (told J ns)), some (Mo (S J 0 ns)), none, none, none, none, none] s = .ok (.lst ((told J ns).map unMo)) s := by
      have hf : iT (mvar 2) [some (.lst (J.map dj)), some (.lst (is ns)), some (.tup (told J ns)), some (Mo (S J 0 ns)), none, none, none, none, none] = mret (told J ns) := by
        funext s
        walk_at "tw"
      rw [lc_map unMo hf (by rw [tl]; omega) fun d hd => by
        unfold told at hd
        obtain ⟨i, _, rfl⟩ := List.mem_map.mp hd
        have p := plain_eq (V J ns (i + 1))
        refine ⟨[some (.lst (J.map dj)), some (.lst (is ns)), some (.tup (told J ns)), some (Mo (S J 0 ns)), none, none, none, none, some (Mo (V J ns (i + 1)))], rfl, ?_⟩
        funext s
        show kCall m__law_plain _ _ s = mret (t3 (V J ns (i + 1))) s
        clear hf hl h1 h9 tl e0
        walk_at "tw"]
      rfl
    have p := plain_eq (S J 0 ns)
    have v := vs_eq hl h1
    rw [V_zero] at v
    have cA : addIL (.lst [t3 (S J 0 ns)]) (.lst ((told J ns).map unMo)) s = .ok (.lst (t3 (S J 0 ns) :: (told J ns).map unMo)) s := y_cat (by rw [List.length_map, tl]; show 1 + _ ≤ _; omega)
    have cB : addIL (.lst (t3 (S J 0 ns) :: (told J ns).map unMo)) (.lst [.tup [.int 0, .int 0, .int 0]]) s = .ok (.lst ((vs J ns).map t3)) s := by
      rw [← v]
      exact y_cat (by rw [List.length_cons, List.length_map, tl]; show _ + 1 ≤ _; omega)
    generalize (told J ns).map unMo = X at *
    generalize (vs J ns).map t3 = Y at *
    clear v hl h1 h9 tl e0
    unfold b__law_all_1
    walk_at "tw"
  have e2 : b__law_all_2 [some (.lst (J.map dj)), some (.lst (is ns)), some (.tup (told J ns)), some (Mo (S J 0 ns)), some (.lst ((vs J ns).map t3)), none, none, none, none] s = .nx [some (.lst (J.map dj)), some (.lst (is ns)), some (.tup (told J ns)), some (Mo (S J 0 ns)), some (.lst ((vs J ns).map t3)), none, none, none, none] s := by
    have n := none_in (vs J ns)
    have g : atI ((vs J ns).map t3) 0 = some (t3 (S J 0 ns)) := vs_get (f := 0) (Nat.zero_le _)
    have m := motion_eq hJ (ns := ns) (by omega)
    have q := ne_t3 (S J 0 ns)
    generalize (vs J ns).map t3 = Y at *
    clear hl h1 h9 tl e0 e1 hJ
    unfold b__law_all_2
    walk_at "tw"
  have e3 : ∃ ρ' s', b__law_all_3 [some (.lst (J.map dj)), some (.lst (is ns)), some (.tup (told J ns)), some (Mo (S J 0 ns)), some (.lst ((vs J ns).map t3)), none, none, none, none] s = .nx ρ' s' ∧ ∃ a5 a7, ρ' = [some (.lst (J.map dj)), some (.lst (is ns)), some (.tup (told J ns)), some (Mo (S J 0 ns)), some (.lst ((vs J ns).map t3)), a5, none, a7, none] ∧ s = s' := by
    unfold b__law_all_3
    have r : rng1 [.int ((J.length : Nat) - 1)] = mret (rngL 0 (J.length - 1)) := by
      show (if decide (((J.length : Nat) : Int) - 1 < 100000) = true ∧ decide (-100000 < ((J.length : Nat) : Int) - 1) = true then mret (rngL 0 (((J.length : Nat) : Int) - 1).toNat) else mbad) = _
      rw [if_pos ⟨decide_eq_true (by omega), decide_eq_true (by omega)⟩, show (((J.length : Nat) : Int) - 1).toNat = J.length - 1 by omega]
    refine sfor_inv (fun ρ s' => ∃ a5 a7, ρ = [some (.lst (J.map dj)), some (.lst (is ns)), some (.tup (told J ns)), some (Mo (S J 0 ns)), some (.lst ((vs J ns).map t3)), a5, none, a7, none] ∧ s = s') (ds := rngL 0 (J.length - 1)) (s := s) (by clear hl h1 h9 tl e0 e1 e2 hJ; walk_at "tw") ⟨none, none, rfl, rfl⟩ ?_
    rintro d hd ρ s' ⟨a5, a7, rfl, rfl⟩
    obtain ⟨i, hi, rfl⟩ := rng_mem hd
    have rp : repL' (.lst [.int 0]) (.int (2 * ((i : Nat) : Int) + 2)) = mret (.lst (is (List.replicate (2 * (i + 1)) 0))) := by
      rw [rep_eq (by omega) (by omega) (by decide), rep_ones, show (2 * ((i : Nat) : Int) + 2).toNat = 2 * (i + 1) by omega]
    have ct : cutD (is ns) (some (2 * ((i : Nat) : Int) + 2)) none = is (ns.drop (2 * (i + 1))) := by
      rw [show 2 * ((i : Nat) : Int) + 2 = ((2 * (i + 1) : Nat) : Int) by omega, cut_drop (by rw [is_len]; omega), is_drop]
    have cat : addIL (.lst (is (List.replicate (2 * (i + 1)) 0))) (.lst (is (ns.drop (2 * (i + 1))))) s = .ok (.lst (is (List.replicate (2 * (i + 1)) 0 ++ ns.drop (2 * (i + 1))))) s := by
      rw [← is_app]
      exact y_cat (by rw [is_len, is_len, List.length_replicate, List.length_drop]; omega)
    have mo := motion_eq hJ (ns := List.replicate (2 * (i + 1)) 0 ++ ns.drop (2 * (i + 1))) (by rw [List.length_append, List.length_replicate, List.length_drop]; omega)
    rw [V_rest] at mo
    have g : atI ((vs J ns).map t3) (((i : Nat) : Int) + 1) = some (t3 (V J ns (i + 1))) := vs_get (f := i + 1) (by omega)
    have q := ne_t3 (V J ns (i + 1))
    have m2 : mulOk 2 ((i : Nat) : Int) = true := mulOk_l (by decide)
    refine ⟨_, [some (.lst (J.map dj)), some (.lst (is ns)), some (.tup (told J ns)), some (Mo (S J 0 ns)), some (.lst ((vs J ns).map t3)), some (.int (i : Nat)), none, some (.lst (is (List.replicate (2 * (i + 1)) 0 ++ ns.drop (2 * (i + 1))))), none], s, rfl, ?_, ⟨_, _, rfl, rfl⟩⟩
    generalize (vs J ns).map t3 = Y at *
    generalize is (List.replicate (2 * (i + 1)) 0 ++ ns.drop (2 * (i + 1))) = Z at *
    generalize is (List.replicate (2 * (i + 1)) 0) = Z1 at *
    generalize is (ns.drop (2 * (i + 1))) = Z2 at *
    clear hl h1 h9 tl e0 e1 e2 hJ hd hi r
    unfold lb__law_all_0
    walk_at "tw"
  obtain ⟨_, _, e3, a5, a7, rfl, rfl⟩ := e3
  have e4 : ∃ ρ' s', b__law_all_4 [some (.lst (J.map dj)), some (.lst (is ns)), some (.tup (told J ns)), some (Mo (S J 0 ns)), some (.lst ((vs J ns).map t3)), a5, none, a7, none] s = .nx ρ' s' ∧ ∃ a6, ρ' = [some (.lst (J.map dj)), some (.lst (is ns)), some (.tup (told J ns)), some (Mo (S J 0 ns)), some (.lst ((vs J ns).map t3)), a5, a6, a7, none] ∧ s = s' := by
    unfold b__law_all_4
    have r : rng1 [.int (J.length : Nat)] = mret (rngL 0 J.length) := by
      show (if decide (((J.length : Nat) : Int) < 100000) = true ∧ decide (-100000 < ((J.length : Nat) : Int)) = true then mret (rngL 0 ((J.length : Nat) : Int).toNat) else mbad) = _
      rw [if_pos ⟨decide_eq_true (by omega), decide_eq_true (by omega)⟩, Int.toNat_natCast]
    refine sfor_inv (fun ρ s' => ∃ a6, ρ = [some (.lst (J.map dj)), some (.lst (is ns)), some (.tup (told J ns)), some (Mo (S J 0 ns)), some (.lst ((vs J ns).map t3)), a5, a6, a7, none] ∧ s = s') (ds := rngL 0 J.length) (s := s) (by clear hl h1 h9 tl e0 e1 e2 e3 hJ; walk_at "tw") ⟨none, rfl, rfl⟩ ?_
    rintro d hd ρ s' ⟨a6, rfl, rfl⟩
    obtain ⟨i, hi, rfl⟩ := rng_mem hd
    have o := opens_eq hJ hl hn hi
    have g : atI ((vs J ns).map t3) ((i : Nat) : Int) = some (t3 (V J ns i)) := vs_get (f := i) (by omega)
    have g2 : atI ((vs J ns).map t3) (((i : Nat) : Int) + 1) = some (t3 (V J ns (i + 1))) := vs_get (f := i + 1) (by omega)
    refine ⟨_, [some (.lst (J.map dj)), some (.lst (is ns)), some (.tup (told J ns)), some (Mo (S J 0 ns)), some (.lst ((vs J ns).map t3)), a5, some (.int (i : Nat)), a7, none], s, rfl, ?_, ⟨_, rfl, rfl⟩⟩
    generalize (vs J ns).map t3 = Y at *
    clear hl h1 h9 tl e0 e1 e2 e3 hJ hd hi r hn
    unfold lb__law_all_1
    walk_at "tw"
  obtain ⟨_, _, e4, a6, rfl, rfl⟩ := e4
  unfold b__law_all
  exact sseq_nx' e0 (sseq_nx' e1 (sseq_nx' e2 (sseq_nx' e3 (sseq_nx' e4 rfl))))
end K13

set_option Elab.async false
set_option linter.all false
set_option maxRecDepth 100000
set_option maxHeartbeats 4000000
set_option autoImplicit false
namespace K13
open PySem L2 Tw

local macro_rules | `(tactic| walk_at "sm") => `(tactic| first | assumption | exact Sm.lit200 (by decide) | (apply Sm.mul; walk_at "sm"; walk_at "sm") | (apply Sm.add2; walk_at "sm"; walk_at "sm") | (apply Sm.sub2; walk_at "sm"; walk_at "sm") | (apply Sm.neg; walk_at "sm"))
local macro_rules | `(tactic| walk_at "mo") => `(tactic| (apply mulOk_any; walk_at "sm"; walk_at "sm"; decide))
local macro_rules | `(tactic| walk_at "ds") => `(tactic| first | assumption | rfl | exact Nat.le_of_ble_eq_true rfl | walk_at "mo" | decide | omega)
local macro_rules | `(tactic| walk_at "tw") => `(tactic| simp (disch := walk_at "ds") only [↓y_nox, ↓y_seq, ↓y_mvZ, ↓y_mvS, ↓y_c, ↓y_op, ↓y_un, ↓y_b, ↓y_asB, ↓y_and, ↓y_or, ↓y_not, ↓y_andV, ↓y_orV, ↓y_notV, ↓y_ifE, ↓y_ch, ↓y_nil, ↓y_cons, ↓y_call, ↓y_callD, ↓y_iL, ↓y_iT, ↓y_asL, ↓y_asT, ↓y_iS, ↓y_asSl, ↓y_asSt, ↓y_iR1, ↓y_iR2, ↓y_iZ, ↓y_iN, ↓y_iOw, ↓y_zll, ↓y_zlt, ↓y_ztl, ↓y_ztt, ↓y_enl, ↓y_ent, ↓y_rng, ↓y_zNx, ↓y_zBk, ↓y_zCt, ↓y_ex, ↓y_ret, ↓y_retN, ↓y_if, ↓y_raise, ↓y_raiseN, ↓y_asg, ↓y_gnm, ↓y_par, ↓y_gcn, ↓y_gnl, ↓y_gtm2, ↓y_gtm3, ↓y_addI, ↓y_add, ↓y_sub, ↓y_neg, ↓y_lt, ↓y_le, ↓y_gt, ↓y_ge, ↓y_eqi, ↓y_eqb, ↓y_eqs, ↓y_nei, ↓y_neb, ↓y_nes, ↓y_isb, ↓y_nob, ↓y_lenl, ↓y_lent, ↓y_tuple_l, ↓y_tuple_t, ↓y_list_l, ↓y_list_t, ↓y_int, ↓y_abs, ↓y_gcd, ↓y_max2, ↓y_lst, ↓y_tup, ↓y_mul, ↓y_fld, ↓y_meth, ↓y_prop, ↓y_isI, ↓y_mk, ↓y_bget, ↓y_sfor, ↓y_mdef, ↓y_oA, oAK_exc, oAK_nx, backOf_bl, backOf_nx, y_isiX, y_isiXt, ↓y_xf, y_xf1, eq_self, ↓y_par3, ↓parK3_ok, ↓y_cmS, ↓y_cmSK, ↓y_mkV, ↓y_mkVK, ↓y_isNon, ↓y_sl, ↓y_part, ↓y_no, ↓y_pi, ↓y_sll, ↓y_slt, ↓y_cat, ↓y_mbind, ↓y_obind, ↓obind_exc, ↓y_sof, ↓sof_exc, ↓seqk_nx, ↓seqk_ret, ↓seqk_bk, ↓seqk_ct, ↓seqk_exc, ↓noxk_ok, ↓gok_some, ↓parK_ok, ↓gcK_some, ↓retk_nx, ↓retk_ret, ↓retk_exc, ↓y_mret, y_obind, obind_exc, y_sof, sof_exc, seqk_nx, seqk_ret, seqk_bk, seqk_ct, seqk_exc, noxk_ok, gok_some, parK_ok, gcK_some, retk_nx, retk_ret, retk_exc, y_mret, ↓reduceIte, reduceIte, ↓y_set0, ↓y_setS, startL,
  int2c, mul_eq, fdv_eq, fdv_64, fmd_eq, ne_eq, not_false_eq_true, Int.reduceEq, Nat.reduceLeDiff, Int.reduceAdd, Int.reduceNeg, Int.reduceLT, Int.reduceLE, Int.reduceSub, Nat.reduceEqDiff, Nat.reduceLT, p9, p15, p18, p20, p30, p6, beq_self_eq_true, isNo, notNo, itemD, bagGet, bagPut, Pen.bget, Pen.bput, objPut, at0, at1, at2, isiA_int, isiA_bl, isiA_non, isiA_str, isiA_tup, isiA_lst, ii_int, ii_bool, ib_int, ib_bool, in_int, is_int, it_int, il_int, it_tuple, il_tuple, in_bool, is_bool, it_bool, il_bool,
  List.map_cons, List.map_nil, List.length_cons, List.length_nil, List.cons_append, List.nil_append, List.append_nil, List.getElem?_cons_zero, List.getElem?_cons_succ, List.replicate_succ, List.replicate_zero, Nat.reduceSub, Nat.reduceAdd, if_true, if_false, decide_eq_true_eq, Bool.not_eq_true', Bool.true_eq_false, Bool.false_eq_true, decide_true, decide_false, Bool.not_true, Bool.not_false, ite_true, ite_false, List.length_map, and_true, true_and, and_false, false_and, and_self, or_true, true_or, or_false, false_or, not_true_eq_false, Bool.not_eq_false, Bool.not_eq_true, decide_eq_false_iff_not, Int.sub_self, Bool.and_self, Bool.or_self, Bool.true_or, Bool.or_true, Bool.false_or, Bool.or_false, Bool.true_and, Bool.and_true, Bool.and_false, Bool.false_and, ↓zansE_6_9, ↓zansE_6_3, ↓zansE_1_9, ↓zansE_1_3, ↓zansE_2_9, ↓zansE_2_3, ↓zansE_8_9, ↓zansE_8_3, ↓zansE_9_9, ↓zansE_9_3, ↓zansE_5_9, ↓zansE_5_3, ↓zansE_3_9, ↓zansE_3_3, ↓zans_12_10, ↓zans_12_11, ↓zans_12_13, ↓zans_12_bool, ↓zans_12_int, ↓zans_12_list, ↓zans_12_tuple, ↓zans_10_10, ↓zans_10_11, ↓zans_10_13, ↓zans_10_bool, ↓zans_10_int, ↓zans_10_list, ↓zans_10_tuple, ↓zans_11_10, ↓zans_11_11, ↓zans_11_13, ↓zans_11_bool, ↓zans_11_int, ↓zans_11_list, ↓zans_11_tuple, ↓zans_13_10, ↓zans_13_11, ↓zans_13_13, ↓zans_13_bool, ↓zans_13_int, ↓zans_13_list, ↓zans_13_tuple, ↓zans_NoneType_10, ↓zans_NoneType_11, ↓zans_NoneType_13, ↓zans_14_10, ↓zans_14_11, ↓zans_14_13, ↓zans_14_bool, ↓zans_14_int, ↓zans_14_list, ↓zans_14_tuple, ↓zans_bool_10, ↓zans_bool_11, ↓zans_bool_13, ↓zans_int_10, ↓zans_int_11, ↓zans_int_13, ↓zans_list_10, ↓zans_list_11, ↓zans_list_13, ↓zans_str_10, ↓zans_str_11, ↓zans_str_13, ↓zans_tuple_10, ↓zans_tuple_11, ↓zans_tuple_13, ↓y_fldW, ↓y_Mt, ↓y_Ma, ↓y_Mu, ↓y_Mi, *])
theorem mk_mo (a b c : Int) : mkD 13 m_Motion___init__ [.int a, .int b, .int c] = mret (Mo ⟨a, b, c⟩) := by
  funext s
  have n1 := isnum_int a
  have n2 := isnum_int b
  have n3 := isnum_int c
  have e : m_Motion___init__ [.self, .int a, .int b, .int c] { s with obj := [], ocls := 13 } = .ok .non { s with obj := [("turn", .int a), ("across", .int b), ("up", .int c)], ocls := 13 } := by
    unfold m_Motion___init__ b_Motion___init__ b_Motion___init___0 b_Motion___init___1 b_Motion___init___2 b_Motion___init___3
    walk_at "tw"
    rfl
  exact mkD_of rfl e
theorem mk_fo (a b c : Int) : mkD 10 m_Force___init__ [.int a, .int b, .int c] = mret (.ins 10 ["across", "up", "moment"] [.int a, .int b, .int c]) := by
  funext s
  have n1 := isnum_int a
  have n2 := isnum_int b
  have n3 := isnum_int c
  have e : m_Force___init__ [.self, .int a, .int b, .int c] { s with obj := [], ocls := 10 } = .ok .non { s with obj := [("across", .int a), ("up", .int b), ("moment", .int c)], ocls := 10 } := by
    unfold m_Force___init__ b_Force___init__ b_Force___init___0 b_Force___init___1 b_Force___init___2 b_Force___init___3 b_Force___init___4 b_Force___init___5
    walk_at "tw"
    rfl
  exact mkD_of rfl e
theorem mo_none : m_Motion_none [.cls 13] = mret (Mo ⟨0, 0, 0⟩) := by
  funext s
  refine mdef_ret ?_
  have k := mk_mo 0 0 0
  unfold b_Motion_none
  walk_at "tw"
def F0 : D := .ins 10 ["across", "up", "moment"] [.int 0, .int 0, .int 0]
theorem fo_none : m_Force_none [.cls 10] = mret F0 := by
  funext s
  refine mdef_ret ?_
  have k := mk_fo 0 0 0
  unfold b_Force_none F0
  walk_at "tw"
theorem mo_turning {x y t : Int} (hx : Far x) (hy : Far y) : m_Motion_turning [.cls 13, .tup [.int x, .int y], .int t] = mret (Mo ⟨t, t * y, -t * x⟩) := by
  have m1 : mulOk t y = true := mulOk_r hy.small
  have m2 : mulOk (-t) x = true := mulOk_r hx.small
  have k := mk_mo t (t * y) (-t * x)
  clear hx hy
  funext s
  refine mdef_ret ?_
  unfold b_Motion_turning b_Motion_turning_0 b_Motion_turning_1
  walk_at "tw"
theorem mo_add (A B : T3) : ownX 13 m_Motion___add__ (Mo A) (Mo B) = mret (Mo (A.add B)) := by
  show m_Motion___add__ [Mo A, Mo B] = _
  have k := mk_mo (A.t + B.t) (A.a + B.a) (A.u + B.u)
  funext s
  refine mdef_ret ?_
  unfold b_Motion___add__ T3.add
  walk_at "tw"
theorem side_eq (k : Nat) : m_side_of [.int (k : Nat)] = mret (.int (sd k)) := by
  have f2 := fmd2 k
  have q := side_if k
  funext s
  refine mdef_ret ?_
  unfold b_side_of
  by_cases z : ((k % 2 : Nat) : Int) = 0
  · rw [if_pos z] at q
    rw [← q]
    clear q
    walk_at "tw"
  · rw [if_neg z] at q
    rw [← q]
    clear q
    walk_at "tw"
/-! #### loads of nothing -/
def Ld (n : Nat) : D := .ins 11 ["forces"] [.tup (List.replicate n F0)]
theorem rep_clear : ∀ n : Nat, clearL (List.replicate n F0) = true
  | 0 => rfl
  | n + 1 => rep_clear n
theorem mk_ld {n : Nat} (h1 : 1 ≤ n) (h8 : n ≤ 8) : mkD 11 m_Load___init__ [.lst (List.replicate n F0)] = mret (Ld n) := by
  funext s
  have r := isrow_seq (d := .lst (List.replicate n F0)) (xs := List.replicate n F0) rfl 1 8
  rw [List.length_replicate, decide_eq_true (show (1 : Int) ≤ (n : Nat) by omega), decide_eq_true (show ((n : Nat) : Int) ≤ 8 by omega)] at r
  have c : ∀ s, kLc (iS (mvar 1)) (gnm 2) (fun _ => mret true) (kCall (isiA ans) (aCons (mvar 2) (aCons (kC (.cls 10)) aNil))) [2] [some .self, some (.lst (List.replicate n F0)), none] s = .ok (.lst ((List.replicate n F0).map fun _ => .bl true)) s := fun s => by
    rw [lc_map (ds := List.replicate n F0) (fun _ => .bl true) rfl (by rw [List.length_replicate]; omega) fun d hd => by
      rw [(List.mem_replicate.mp hd).2]
      exact ⟨[some .self, some (.lst (List.replicate n F0)), some F0], rfl, rfl⟩]
    rfl
  have a := all_map (fun _ => true) (List.replicate n F0)
  rw [show (List.replicate n F0).all (fun _ => true) = true from List.all_eq_true.mpr fun _ _ => rfl] at a
  have cl := rep_clear n
  have e : m_Load___init__ [.self, .lst (List.replicate n F0)] { s with obj := [], ocls := 11 } = .ok .non { s with obj := [("forces", .tup (List.replicate n F0))], ocls := 11 } := by
    generalize List.replicate n F0 = X at *
    clear h1 h8
    unfold m_Load___init__ b_Load___init__ b_Load___init___0 b_Load___init___1 b_Load___init___2
    walk_at "tw"
    simp [List.lookup, gro, clear, cl]
    rfl
  refine mkD_of ?_ e
  show ((clearL (List.replicate n F0) && true) && true) = true
  rw [cl]; rfl
theorem ld_none {n : Nat} (h1 : 1 ≤ n) (h8 : n ≤ 8) : m_Load_none [.cls 11, .int (n : Nat)] = mret (Ld n) := by
  have k := mk_ld h1 h8
  have w := iswhole_int (n : Nat) 1 8
  rw [decide_eq_true (show (1 : Int) ≤ (n : Nat) by omega), decide_eq_true (show ((n : Nat) : Int) ≤ 8 by omega)] at w
  have f := fo_none
  have r : rng1 [.int (n : Nat)] = mret (rngL 0 n) := rng_one rfl (by omega)
  have l0 : (rngL 0 n).length = n := by rw [rngL_eq, List.length_map, List.length_range']
  have c : ∀ s, kLc (iR1 (aCons (mvar 1) aNil)) (gnm 2) (fun _ => mret true) (kCmS 10 m_Force_none [] (kC (.cls 10)) aNil) [2] [some (.cls 11), some (.int (n : Nat)), none] s = .ok (.lst (List.replicate n F0)) s := fun s => by
    have hf : iR1 (aCons (mvar 1) aNil) [some (.cls 11), some (.int (n : Nat)), none] = mret (rngL 0 n) := by
      funext s
      clear w k f h1 h8
      walk_at "tw"
    rw [lc_map (fun _ => F0) hf (by rw [l0]; omega) fun d hd => ⟨[some (.cls 11), some (.int (n : Nat)), some d], rfl, by
      funext s
      clear w k h1 h8 hf hd r
      walk_at "tw"⟩, List.map_const', l0]
    rfl
  have ck : m__check_stones [.int (n : Nat)] = mret .non := by
    funext s
    show mdef _ _ _ _ = _
    rw [y_mdef]
    unfold b__check_stones
    clear k f c r l0 h1 h8
    walk_at "tw"
  funext s
  refine mdef_ret ?_
  clear w r l0 h1 h8 f
  unfold b_Load_none b_Load_none_0 b_Load_none_1
  walk_at "tw"
theorem own_none {n : Nat} (h1 : 1 ≤ n) (h8 : n ≤ 8) : m__checked_own [.non, .int (n : Nat)] = mret (Ld n) := by
  have k := ld_none h1 h8
  clear h1 h8
  funext s
  refine mdef_ret ?_
  unfold b__checked_own b__checked_own_0
  walk_at "tw"
/-! #### joints checked -/
theorem point_ok {x y : Int} (hx : Far x) (hy : Far y) : m_is_point [.tup [.int x, .int y]] = mret (.bl true) := by
  have r := isrow_seq (d := .tup [.int x, .int y]) (xs := [.int x, .int y]) rfl 2 2
  have w1 := iswhole_int x (-1000000) 1000000
  have w2 := iswhole_int y (-1000000) 1000000
  rw [decide_eq_true hx.1, decide_eq_true hx.2] at w1
  rw [decide_eq_true hy.1, decide_eq_true hy.2] at w2
  have r' : m_is_row [.tup [.int x, .int y], .int 2, .int 2] = mret (.bl true) := r
  clear hx hy r
  funext s
  refine mdef_ret ?_
  unfold b_is_point
  walk_at "tw"
theorem eqT2 (a b x y : Int) : eqA (.tup [.int a, .int b]) (.tup [.int x, .int y]) = mret (.bl (decide (a = x ∧ b = y))) := by
  have z := eqT [a, b] [x, y]
  have q : decide ([a, b] = [x, y]) = decide (a = x ∧ b = y) := by
    congr 1
    simp
  rw [q] at z
  exact z
theorem joint_ok {j : Jt} (h : OkJ j) (i : Int) : m__checked_joint [.int i, dj j] = mret (dj j) := by
  obtain ⟨xi, yi, xo, yo⟩ := j
  obtain ⟨h1, h2, h3, h4, h5⟩ := h
  dsimp only at h1 h2 h3 h4 h5
  have r : m_is_row [.tup [.tup [.int xi, .int yi], .tup [.int xo, .int yo]], .int 2, .int 2] = mret (.bl true) := isrow_seq (xs := [.tup [.int xi, .int yi], .tup [.int xo, .int yo]]) rfl 2 2
  have p1 := point_ok h1 h2
  have p2 := point_ok h3 h4
  have q := eqT2 xi yi xo yo
  rw [decide_eq_false h5] at q
  clear h1 h2 h3 h4 h5
  funext s
  refine mdef_ret ?_
  unfold b__checked_joint b__checked_joint_0 b__checked_joint_1 b__checked_joint_2 b__checked_joint_3 b__checked_joint_4 dj
  walk_at "tw"
theorem num_memG : ∀ (xs : List D) (k : Nat) (d : D), d ∈ numUp k xs → ∃ (i : Nat) (x : D), x ∈ xs ∧ d = .tup [.int (i : Nat), x]
  | [], _, d, h => (List.not_mem_nil h).elim
  | x :: xs, k, d, h => by
    rcases List.mem_cons.mp (show d ∈ D.tup [.int (k : Nat), x] :: numUp (k + 1) xs from h) with h | h
    · exact ⟨k, x, List.mem_cons_self, h⟩
    · obtain ⟨i, y, hy, e⟩ := num_memG xs (k + 1) d h
      exact ⟨i, y, List.mem_cons_of_mem _ hy, e⟩
def snd2D : D → D
  | .tup [_, x] => x
  | d => d
theorem num_snd : ∀ (xs : List D) (k : Nat), (numUp k xs).map snd2D = xs
  | [], _ => rfl
  | x :: xs, k => by
    show x :: (numUp (k + 1) xs).map snd2D = _
    rw [num_snd xs (k + 1)]
theorem joints_ok {J : List Jt} (hJ : Ok J) (h2 : 2 ≤ J.length) (h9 : J.length ≤ 9) : m__checked_joints [.lst (J.map dj)] = mret (.tup (J.map dj)) := by
  have r := isrow_seq (d := .lst (J.map dj)) (xs := J.map dj) rfl 2 9
  rw [List.length_map, decide_eq_true (show (2 : Int) ≤ (J.length : Nat) by omega), decide_eq_true (show ((J.length : Nat) : Int) ≤ 9 by omega)] at r
  have c : ∀ s, kLc (iN (aCons (mvar 0) aNil)) (gtm 2 (gcn (gnm 1) (gcn (gnm 2) gnl))) (fun _ => mret true) (kCall m__checked_joint (aCons (mvar 1) (aCons (mvar 2) aNil))) [1, 2] [some (.lst (J.map dj)), none, none] s = .ok (.lst (J.map dj)) s := fun s => by
    have hf : iN (aCons (mvar 0) aNil) [some (.lst (J.map dj)), none, none] = mret (numUp 0 (J.map dj)) := by
      funext s
      clear r h2 h9
      walk_at "tw"
    rw [lc_map snd2D hf (by rw [numUp_len, List.length_map]; omega) fun d hd => by
      obtain ⟨i, x, hx, rfl⟩ := num_memG _ 0 d hd
      obtain ⟨j, hj, rfl⟩ := List.mem_map.mp hx
      have q := joint_ok (hJ j hj) (i : Nat)
      refine ⟨[some (.lst (J.map dj)), some (.int (i : Nat)), some (dj j)], rfl, ?_⟩
      funext s
      show kCall m__checked_joint _ _ s = mret (dj j) s
      clear r h2 h9 hf hx hd
      walk_at "tw", num_snd]
    rfl
  clear h2 h9 hJ
  funext s
  refine mdef_ret ?_
  unfold b__checked_joints b__checked_joints_0 b__checked_joints_1
  walk_at "tw"
end K13

set_option Elab.async false
set_option linter.all false
set_option maxRecDepth 100000
set_option maxHeartbeats 4000000
set_option autoImplicit false
namespace K13
open PySem L2 Tw

def B (J : List Jt) : D := .ins 12 ["joints", "stones", "corner_count", "own"] [.tup (J.map dj), .int ((J.length : Nat) - 1), .int (2 * (J.length : Nat)), Ld (J.length - 1)]
theorem y_Bj (J : List Jt) (s : Pen) : fldD cf_joints "joints" (B J) s = .ok (.tup (J.map dj)) s := nr rfl
theorem y_Bs (J : List Jt) (s : Pen) : fldD cf_stones "stones" (B J) s = .ok (.int ((J.length : Nat) - 1)) s := nr rfl
theorem y_Bc (J : List Jt) (s : Pen) : fldD cf_corner_count "corner_count" (B J) s = .ok (.int (2 * (J.length : Nat))) s := nr rfl
theorem y_BI (J : List Jt) (s : Pen) : isI 12 "point" (B J) s = .ok () s := by
  unfold B
  exact y_isI _ _ _ _ (by decide +kernel)
local macro_rules | `(tactic| walk_at "sm") => `(tactic| first | assumption | exact Sm.lit200 (by decide) | (apply Sm.mul; walk_at "sm"; walk_at "sm") | (apply Sm.add2; walk_at "sm"; walk_at "sm") | (apply Sm.sub2; walk_at "sm"; walk_at "sm") | (apply Sm.neg; walk_at "sm"))
local macro_rules | `(tactic| walk_at "mo") => `(tactic| (apply mulOk_any; walk_at "sm"; walk_at "sm"; decide))
local macro_rules | `(tactic| walk_at "ds") => `(tactic| first | assumption | rfl | exact Nat.le_of_ble_eq_true rfl | walk_at "mo" | decide | omega)
local macro_rules | `(tactic| walk_at "tw") => `(tactic| simp (disch := walk_at "ds") only [↓y_nox, ↓y_seq, ↓y_mvZ, ↓y_mvS, ↓y_c, ↓y_op, ↓y_un, ↓y_b, ↓y_asB, ↓y_and, ↓y_or, ↓y_not, ↓y_andV, ↓y_orV, ↓y_notV, ↓y_ifE, ↓y_ch, ↓y_nil, ↓y_cons, ↓y_call, ↓y_callD, ↓y_iL, ↓y_iT, ↓y_asL, ↓y_asT, ↓y_iS, ↓y_asSl, ↓y_asSt, ↓y_iR1, ↓y_iR2, ↓y_iZ, ↓y_iN, ↓y_iOw, ↓y_zll, ↓y_zlt, ↓y_ztl, ↓y_ztt, ↓y_enl, ↓y_ent, ↓y_rng, ↓y_zNx, ↓y_zBk, ↓y_zCt, ↓y_ex, ↓y_ret, ↓y_retN, ↓y_if, ↓y_raise, ↓y_raiseN, ↓y_asg, ↓y_gnm, ↓y_par, ↓y_gcn, ↓y_gnl, ↓y_gtm2, ↓y_gtm3, ↓y_addI, ↓y_add, ↓y_sub, ↓y_neg, ↓y_lt, ↓y_le, ↓y_gt, ↓y_ge, ↓y_eqi, ↓y_eqb, ↓y_eqs, ↓y_nei, ↓y_neb, ↓y_nes, ↓y_isb, ↓y_nob, ↓y_lenl, ↓y_lent, ↓y_tuple_l, ↓y_tuple_t, ↓y_list_l, ↓y_list_t, ↓y_int, ↓y_abs, ↓y_gcd, ↓y_max2, ↓y_lst, ↓y_tup, ↓y_mul, ↓y_fld, ↓y_meth, ↓y_prop, ↓y_isI, ↓y_mk, ↓y_bget, ↓y_sfor, ↓y_mdef, ↓y_oA, oAK_exc, oAK_nx, backOf_bl, backOf_nx, y_isiX, y_isiXt, ↓y_xf, y_xf1, eq_self, ↓y_par3, ↓parK3_ok, ↓y_cmS, ↓y_cmSK, ↓y_mkV, ↓y_mkVK, ↓y_isNon, ↓y_sl, ↓y_part, ↓y_no, ↓y_pi, ↓y_sll, ↓y_slt, ↓y_cat, ↓y_mbind, ↓y_obind, ↓obind_exc, ↓y_sof, ↓sof_exc, ↓seqk_nx, ↓seqk_ret, ↓seqk_bk, ↓seqk_ct, ↓seqk_exc, ↓noxk_ok, ↓gok_some, ↓parK_ok, ↓gcK_some, ↓retk_nx, ↓retk_ret, ↓retk_exc, ↓y_mret, y_obind, obind_exc, y_sof, sof_exc, seqk_nx, seqk_ret, seqk_bk, seqk_ct, seqk_exc, noxk_ok, gok_some, parK_ok, gcK_some, retk_nx, retk_ret, retk_exc, y_mret, ↓reduceIte, reduceIte, ↓y_set0, ↓y_setS, startL,
  int2c, mul_eq, fdv_eq, fdv_64, fmd_eq, ne_eq, not_false_eq_true, Int.reduceEq, Nat.reduceLeDiff, Int.reduceAdd, Int.reduceNeg, Int.reduceLT, Int.reduceLE, Int.reduceSub, Nat.reduceEqDiff, Nat.reduceLT, p9, p15, p18, p20, p30, p6, beq_self_eq_true, isNo, notNo, itemD, bagGet, bagPut, Pen.bget, Pen.bput, objPut, at0, at1, at2, isiA_int, isiA_bl, isiA_non, isiA_str, isiA_tup, isiA_lst, ii_int, ii_bool, ib_int, ib_bool, in_int, is_int, it_int, il_int, it_tuple, il_tuple, in_bool, is_bool, it_bool, il_bool,
  List.map_cons, List.map_nil, List.length_cons, List.length_nil, List.cons_append, List.nil_append, List.append_nil, List.getElem?_cons_zero, List.getElem?_cons_succ, List.replicate_succ, List.replicate_zero, Nat.reduceSub, Nat.reduceAdd, if_true, if_false, decide_eq_true_eq, Bool.not_eq_true', Bool.true_eq_false, Bool.false_eq_true, decide_true, decide_false, Bool.not_true, Bool.not_false, ite_true, ite_false, List.length_map, and_true, true_and, and_false, false_and, and_self, or_true, true_or, or_false, false_or, not_true_eq_false, Bool.not_eq_false, Bool.not_eq_true, decide_eq_false_iff_not, Int.sub_self, Bool.and_self, Bool.or_self, Bool.true_or, Bool.or_true, Bool.false_or, Bool.or_false, Bool.true_and, Bool.and_true, Bool.and_false, Bool.false_and, ↓zansE_6_9, ↓zansE_6_3, ↓zansE_1_9, ↓zansE_1_3, ↓zansE_2_9, ↓zansE_2_3, ↓zansE_8_9, ↓zansE_8_3, ↓zansE_9_9, ↓zansE_9_3, ↓zansE_5_9, ↓zansE_5_3, ↓zansE_3_9, ↓zansE_3_3, ↓zans_12_10, ↓zans_12_11, ↓zans_12_13, ↓zans_12_bool, ↓zans_12_int, ↓zans_12_list, ↓zans_12_tuple, ↓zans_10_10, ↓zans_10_11, ↓zans_10_13, ↓zans_10_bool, ↓zans_10_int, ↓zans_10_list, ↓zans_10_tuple, ↓zans_11_10, ↓zans_11_11, ↓zans_11_13, ↓zans_11_bool, ↓zans_11_int, ↓zans_11_list, ↓zans_11_tuple, ↓zans_13_10, ↓zans_13_11, ↓zans_13_13, ↓zans_13_bool, ↓zans_13_int, ↓zans_13_list, ↓zans_13_tuple, ↓zans_NoneType_10, ↓zans_NoneType_11, ↓zans_NoneType_13, ↓zans_14_10, ↓zans_14_11, ↓zans_14_13, ↓zans_14_bool, ↓zans_14_int, ↓zans_14_list, ↓zans_14_tuple, ↓zans_bool_10, ↓zans_bool_11, ↓zans_bool_13, ↓zans_int_10, ↓zans_int_11, ↓zans_int_13, ↓zans_list_10, ↓zans_list_11, ↓zans_list_13, ↓zans_str_10, ↓zans_str_11, ↓zans_str_13, ↓zans_tuple_10, ↓zans_tuple_11, ↓zans_tuple_13, ↓y_fldW, ↓y_Mt, ↓y_Ma, ↓y_Mu, ↓y_Mi, ↓y_Bj, ↓y_Bs, ↓y_Bc, ↓y_BI, *])
theorem dj_clear : ∀ J : List Jt, clearL (J.map dj) = true
  | [] => rfl
  | j :: J => dj_clear J
theorem ld_clear (n : Nat) : clear (Ld n) = true := by
  show (clearL (List.replicate n F0) && true) = true
  rw [rep_clear]; rfl
theorem mk_b {J : List Jt} (hJ : Ok J) (h2 : 2 ≤ J.length) (h9 : J.length ≤ 9) : mkD 12 m_Bridge___init__ [.lst (J.map dj), .non] = mret (B J) := by
  funext s
  have k := joints_ok hJ h2 h9
  have o := own_none (n := J.length - 1) (by omega) (by omega)
  rw [show ((J.length - 1 : Nat) : Int) = (J.length : Nat) - 1 by omega] at o
  have cl := dj_clear J
  have cld := ld_clear (J.length - 1)
  have m2 : mulOk 2 ((J.length : Nat) : Int) = true := mulOk_l (by decide)
  have len : lenD [.tup (J.map dj)] = mret (.int (J.length : Nat)) := by
    show mret (D.int ((J.map dj).length : Nat)) = _
    rw [List.length_map]
  have e : m_Bridge___init__ [.self, .lst (J.map dj), .non] { s with obj := [], ocls := 12 } = .ok .non { s with obj := [("joints", .tup (J.map dj)), ("stones", .int ((J.length : Nat) - 1)), ("corner_count", .int (2 * (J.length : Nat))), ("own", Ld (J.length - 1))], ocls := 12 } := by
    generalize Ld (J.length - 1) = L at *
    generalize J.map dj = X at *
    clear h2 h9 hJ
    have p0 : b_Bridge___init___0 [some .self, some (.lst X), some .non] { s with obj := [], ocls := 12 } = .nx [some .self, some (.lst X), some .non] { s with obj := [("joints", .tup X)], ocls := 12 } := by
      unfold b_Bridge___init___0
      walk_at "tw"
      simp [List.lookup, gro, clear, cl]
    have p1 : b_Bridge___init___1 [some .self, some (.lst X), some .non] { s with obj := [("joints", .tup X)], ocls := 12 } = .nx [some .self, some (.lst X), some .non] { s with obj := [("joints", .tup X), ("stones", .int ((J.length : Nat) - 1))], ocls := 12 } := by
      have f : ∀ ρ : Tw.Loc, kFld cf_joints "joints" (mvar 0) (some .self :: ρ) { s with obj := [("joints", .tup X)], ocls := 12 } = .ok (.tup X) { s with obj := [("joints", .tup X)], ocls := 12 } := fun _ => rfl
      have v : kOp subI (kCall lenD (aCons (kFld cf_joints "joints" (mvar 0)) aNil)) (kC (.int 1)) [some .self, some (.lst X), some .non] { s with obj := [("joints", .tup X)], ocls := 12 } = .ok (.int ((J.length : Nat) - 1)) { s with obj := [("joints", .tup X)], ocls := 12 } := by
        rw [y_op, y_call, y_cons, f, y_obind, y_mbind, y_nil, y_obind, y_mret, y_obind, len]
        rfl
      unfold b_Bridge___init___1 objPut
      rw [v, y_sof]
      rfl
    have p2 : b_Bridge___init___2 [some .self, some (.lst X), some .non] { s with obj := [("joints", .tup X), ("stones", .int ((J.length : Nat) - 1))], ocls := 12 } = .nx [some .self, some (.lst X), some .non] { s with obj := [("joints", .tup X), ("stones", .int ((J.length : Nat) - 1)), ("corner_count", .int (2 * (J.length : Nat)))], ocls := 12 } := by
      have f : ∀ ρ : Tw.Loc, kFld cf_joints "joints" (mvar 0) (some .self :: ρ) { s with obj := [("joints", .tup X), ("stones", .int ((J.length : Nat) - 1))], ocls := 12 } = .ok (.tup X) { s with obj := [("joints", .tup X), ("stones", .int ((J.length : Nat) - 1))], ocls := 12 } := fun _ => rfl
      have v : kOp mulI (kC (.int 2)) (kCall lenD (aCons (kFld cf_joints "joints" (mvar 0)) aNil)) [some .self, some (.lst X), some .non] { s with obj := [("joints", .tup X), ("stones", .int ((J.length : Nat) - 1))], ocls := 12 } = .ok (.int (2 * (J.length : Nat))) { s with obj := [("joints", .tup X), ("stones", .int ((J.length : Nat) - 1))], ocls := 12 } := by
        rw [y_op, y_c, y_obind, y_mbind, y_call, y_cons, f, y_obind, y_mbind, y_nil, y_obind, y_mret, y_obind, len, y_mret, y_obind, y_mul m2]
      unfold b_Bridge___init___2 objPut
      rw [v, y_sof]
      rfl
    have p3 : b_Bridge___init___3 [some .self, some (.lst X), some .non] { s with obj := [("joints", .tup X), ("stones", .int ((J.length : Nat) - 1)), ("corner_count", .int (2 * (J.length : Nat)))], ocls := 12 } = .nx [some .self, some (.lst X), some .non] { s with obj := [("joints", .tup X), ("stones", .int ((J.length : Nat) - 1)), ("corner_count", .int (2 * (J.length : Nat))), ("own", L)], ocls := 12 } := by
      have f : ∀ ρ : Tw.Loc, kFld cf_stones "stones" (mvar 0) (some .self :: ρ) { s with obj := [("joints", .tup X), ("stones", .int ((J.length : Nat) - 1)), ("corner_count", .int (2 * (J.length : Nat)))], ocls := 12 } = .ok (.int ((J.length : Nat) - 1)) { s with obj := [("joints", .tup X), ("stones", .int ((J.length : Nat) - 1)), ("corner_count", .int (2 * (J.length : Nat)))], ocls := 12 } := fun _ => rfl
      have v : kCall m__checked_own (aCons (mvar 2) (aCons (kFld cf_stones "stones" (mvar 0)) aNil)) [some .self, some (.lst X), some .non] { s with obj := [("joints", .tup X), ("stones", .int ((J.length : Nat) - 1)), ("corner_count", .int (2 * (J.length : Nat)))], ocls := 12 } = .ok L { s with obj := [("joints", .tup X), ("stones", .int ((J.length : Nat) - 1)), ("corner_count", .int (2 * (J.length : Nat)))], ocls := 12 } := by
        rw [y_call, y_cons, y_mvS, y_mvS, y_mvZ, y_obind, y_mbind, y_cons, f, y_obind, y_mbind, y_nil, y_obind, y_mret, y_obind, y_mret, y_obind, o]
        rfl
      unfold b_Bridge___init___3 objPut
      rw [v, y_sof]
      show (if (_ && clear L && _) = true then _ else _) = _
      rw [cld]
      rfl
    show mdef 3 b_Bridge___init__ _ _ = _
    rw [y_mdef, show startL 3 [D.self, .lst X, .non] = [some .self, some (.lst X), some .non] from rfl]
    unfold b_Bridge___init__
    rw [sseq_nx' p0 (sseq_nx' p1 (sseq_nx' p2 p3))]
    rfl
  refine (mkD_of ?_ e).trans rfl
  show ((clearL (J.map dj) && (true && true)) && true) = true
  rw [cl]; rfl
theorem pt_eq {J : List Jt} {k : Nat} (h : k < 2 * J.length) : m_Bridge_point [B J, .int (k : Nat)] = mret (.tup [.int (px J k), .int (py J k)]) := by
  obtain ⟨x, h1, h2⟩ := at_dj h
  have f1 := fdv2 k
  have f2 := fmd2 k
  have w := iswhole_int (k : Nat) 0 (2 * (J.length : Nat) - 1)
  rw [decide_eq_true (by omega), decide_eq_true (by omega)] at w
  clear h
  funext s
  refine mdef_ret ?_
  unfold b_Bridge_point b_Bridge_point_0 b_Bridge_point_1
  walk_at "tw"
theorem beh_loop {J : List Jt} {ns : List Int} {x2 : Option D} {s : Pen} (hJ : Ok J) (hl : ns.length = 2 * J.length) : ∀ (m k : Nat) (A : T3) (x4 : Option D), k + m = ns.length → ∃ y4, sloop (gnm 4) lb__motion_behind_0 ((List.range' k m).map fun i => D.int (i : Nat)) [some (B J), some (W ns), x2, some (Mo A), x4] s = .nx [some (B J), some (W ns), x2, some (Mo (A.add (S J k (ns.drop k)))), y4] s
  | 0, k, A, x4, h => ⟨x4, by rw [List.drop_eq_nil_of_le (by omega), show S J k [] = ⟨0, 0, 0⟩ from rfl, add_zero3]; rfl⟩
  | m + 1, k, A, x4, h => by
    have hk : k < ns.length := by omega
    obtain ⟨y4, e⟩ := beh_loop (x2 := x2) (s := s) hJ hl m (k + 1) (A.add (cm J k ns[k])) (some (.int (k : Nat))) (by omega)
    refine ⟨y4, ?_⟩
    have p := pt_eq (J := J) (k := k) (by omega)
    have sd1 := side_eq k
    have ix := ix_eq (ns := ns) (i := k) (n := ns[k]) (List.getElem?_eq_getElem hk)
    obtain ⟨fx, fy⟩ := p_far hJ k
    have m1 : mulOk (sd k) ns[k] = true := mulOk_l (by unfold sd; split <;> decide)
    have tn := mo_turning (t := sd k * ns[k]) fx fy
    rw [Int.neg_mul] at tn
    have ad := mo_add A (cm J k ns[k])
    have h1 : lb__motion_behind_0 [some (B J), some (W ns), x2, some (Mo A), some (.int (k : Nat))] s = .nx [some (B J), some (W ns), x2, some (Mo (A.add (cm J k ns[k]))), some (.int (k : Nat))] s := by
      unfold cm at ad ⊢
      generalize ns[k] = n at *
      generalize px J k = X at *
      generalize py J k = Y at *
      clear fx fy hk h hl hJ e
      unfold lb__motion_behind_0
      walk_at "tw"
    rw [List.range'_succ, List.map_cons, List.drop_eq_getElem_cons hk]
    show _ = OutS.nx [some (B J), some (W ns), x2, some (Mo (A.add ((cm J k ns[k]).add (S J (k + 1) (ns.drop (k + 1)))))), y4] s
    rw [← add_assoc3]
    exact (sl_nx (ρ1 := [some (B J), some (W ns), x2, some (Mo A), some (.int (k : Nat))]) rfl h1).trans e
theorem beh_eq {J : List Jt} {ns : List Int} {f : Nat} (hJ : Ok J) (hl : ns.length = 2 * J.length) (h9 : J.length ≤ 9) (hf : f ≤ J.length) : m__motion_behind [B J, W ns, .int (f : Nat)] = mret (Mo (V J ns f)) := by
  funext s
  refine mdef_ret ?_
  obtain ⟨y4, e⟩ := beh_loop (x2 := some (.int (f : Nat))) (s := s) hJ hl (2 * J.length - 2 * f) (2 * f) ⟨0, 0, 0⟩ none (by omega)
  rw [zero_add3, ← rngL_from] at e
  have r : rng2 [.int (2 * (f : Nat)), .int (2 * (J.length : Nat))] = mret (rngL (2 * f : Nat) (2 * J.length - 2 * f)) := rng_two (by omega) (by omega) (by omega)
  have m2 : mulOk 2 ((f : Nat) : Int) = true := mulOk_l (by decide)
  have mn := mo_none
  unfold V
  generalize rngL (2 * f : Nat) (2 * J.length - 2 * f) = R at *
  generalize S J (2 * f) (ns.drop (2 * f)) = A at *
  clear hJ hl h9 hf
  unfold b__motion_behind b__motion_behind_0 b__motion_behind_1 b__motion_behind_2
  walk_at "tw"
theorem check_ok {J : List Jt} {ns : List Int} (hl : ns.length = 2 * J.length) (h : ns.length ≤ 1000) : m_check_weights [B J, W ns] = mret .non := by
  have l := len_eq ns h
  have q : ((ns.length : Nat) : Int) = 2 * (J.length : Nat) := by omega
  rw [q] at l
  funext s
  show mdef _ _ _ _ = _
  rw [y_mdef]
  unfold b_check_weights
  clear hl h q
  walk_at "tw"
theorem stones_eq {J : List Jt} {ns : List Int} (hJ : Ok J) (hl : ns.length = 2 * J.length) (h1 : 1 ≤ J.length) (h9 : J.length ≤ 9) : m_stone_motions [B J, W ns] = mret (.tup (told J ns)) := by
  have ck := check_ok hl (by omega)
  have r : rng1 [.int ((J.length : Nat) - 1)] = mret (rngL 0 (J.length - 1)) := rng_one (by omega) (by omega)
  have l0 : (rngL 0 (J.length - 1)).length = J.length - 1 := by rw [rngL_eq, List.length_map, List.length_range']
  have c : ∀ s, kLc (iR1 (aCons (kFld cf_stones "stones" (mvar 0)) aNil)) (gnm 2) (fun _ => mret true) (kCall m__motion_behind (aCons (mvar 0) (aCons (mvar 1) (aCons (kOp addIL (mvar 2) (kC (.int 1))) aNil)))) [2] [some (B J), some (W ns), none] s = .ok (.lst (told J ns)) s := fun s => by
    have hf : iR1 (aCons (kFld cf_stones "stones" (mvar 0)) aNil) [some (B J), some (W ns), none] = mret (rngL 0 (J.length - 1)) := by
      funext s
      clear ck hJ hl h1 h9 l0
      walk_at "tw"
    rw [lc_map (fun d => Mo (V J ns ((intOf d).toNat + 1))) hf (by rw [l0]; omega) fun d hd => by
      obtain ⟨i, hi, rfl⟩ := rng_mem hd
      have b : m__motion_behind [B J, W ns, .int ((i : Nat) + 1)] = mret (Mo (V J ns (i + 1))) := beh_eq (f := i + 1) hJ hl h9 (by omega)
      refine ⟨[some (B J), some (W ns), some (.int (i : Nat))], rfl, ?_⟩
      funext s
      show _ = mret (Mo (V J ns (((i : Nat) : Int).toNat + 1))) s
      rw [Int.toNat_natCast]
      clear ck hJ hl h1 h9 l0 hf hd hi r
      walk_at "tw"]
    unfold told rngL
    rw [List.map_map]
    show Out.ok (D.lst _) s = _
    congr 2
    refine List.map_congr_left fun i _ => ?_
    show Mo (V J ns ((0 + ((i : Nat) : Int)).toNat + 1)) = _
    rw [Int.zero_add, Int.toNat_natCast]
  funext s
  refine mdef_ret ?_
  clear hJ hl h1 h9 l0 r
  unfold b_stone_motions b_stone_motions_0 b_stone_motions_1
  walk_at "tw"
theorem of_eq {J : List Jt} {ns : List Int} (hJ : Ok J) (hl : ns.length = 2 * J.length) (h9 : J.length ≤ 9) : m_motion_of [B J, W ns] = mret (Mo (S J 0 ns)) := by
  have ck := check_ok hl (by omega)
  have b : m__motion_behind [B J, W ns, .int 0] = mret (Mo (S J 0 ns)) := beh_eq (f := 0) hJ hl h9 (by omega)
  clear hJ hl h9
  funext s
  refine mdef_ret ?_
  unfold b_motion_of b_motion_of_0 b_motion_of_1
  walk_at "tw"
/-! #### another size -/
theorem check_no {J : List Jt} {ns : List Int} (hl : ns.length ≠ 2 * J.length) (h : ns.length ≤ 1000) (s : Pen) : m_check_weights [B J, W ns] s = .exc 3 [] [] s := by
  have l := len_eq ns h
  have q : ¬ ((ns.length : Nat) : Int) = 2 * (J.length : Nat) := by omega
  show mdef _ _ _ _ = _
  rw [y_mdef]
  unfold b_check_weights
  clear hl h
  walk_at "tw"
theorem other_eq {J : List Jt} {ns : List Int} (hl : ns.length ≠ 2 * J.length) (h : ns.length ≤ 1000) : m__law_other_size [B J, W ns] = mret (.bl true) := by
  have ck := check_no hl h
  have s1 : ∀ s, m_stone_motions [B J, W ns] s = .exc 3 [] [] s := fun s => by
    show mdef _ _ _ _ = _
    rw [y_mdef]
    unfold b_stone_motions b_stone_motions_0
    clear hl h
    walk_at "tw"
  have s2 : ∀ s, m_motion_of [B J, W ns] s = .exc 3 [] [] s := fun s => by
    show mdef _ _ _ _ = _
    rw [y_mdef]
    unfold b_motion_of b_motion_of_0
    clear hl h s1
    walk_at "tw"
  clear hl h ck
  have cl : ∀ b : Bool, clean [some (B J), some (W ns), some (.bl b), some (.bl true), none, none] = [some (B J), some (W ns), some (.bl b), some (.bl true), none, none] := fun b => by
    have e1 : noErr (B J) = true := by
      have a : ∀ J : List Jt, noErrL (J.map dj) = true := fun J => by
        induction J with
        | nil => rfl
        | cons j J ih => exact ih
      have r : ∀ n : Nat, noErrL (List.replicate n F0) = true := fun n => by
        induction n with
        | zero => rfl
        | succ n ih => exact ih
      show (noErrL (J.map dj) && (true && (true && ((noErrL (List.replicate (J.length - 1) F0) && true) && true)))) = true
      rw [a, r]; rfl
    have e2 : noErr (W ns) = true := by
      show (noErrL (is ns) && true) = true
      rw [noErr_is]; rfl
    show [(if noErr (B J) = true then some (B J) else none), (if noErr (W ns) = true then some (W ns) else none), some (.bl b), some (.bl true), none, none] = _
    rw [if_pos e1, if_pos e2]
  have tn : ∀ (b : Bool) (x3 : Option D) (s : Pen), lb__law_other_size_2 [some (B J), some (W ns), some (.bl b), x3, none, none] s = .nx [some (B J), some (W ns), some (.bl b), some (.bl true), none, none] s := fun b x3 s => by
    unfold lb__law_other_size_2 tb__law_other_size_0 hb__law_other_size_1
    cases b <;> walk_at "tw"
  have e : sloop (gnm 2) lb__law_other_size_2 [.bl false, .bl true] [some (B J), some (W ns), none, none, none, none] = fun s => .nx [some (B J), some (W ns), some (.bl true), some (.bl true), none, none] s := by
    funext s
    rw [sl_nx (ρ1 := [some (B J), some (W ns), some (.bl false), none, none, none]) rfl (tn _ _ _), sl_nx (ρ1 := [some (B J), some (W ns), some (.bl true), some (.bl true), none, none]) rfl (tn _ _ _)]
    rfl
  clear tn cl s1 s2
  funext s
  refine mdef_ret ?_
  unfold b__law_other_size b__law_other_size_0 b__law_other_size_1
  walk_at "tw"
end K13

set_option Elab.async false
set_option linter.all false
set_option maxRecDepth 100000
set_option maxHeartbeats 4000000
set_option autoImplicit false
namespace K13
open PySem L2 Tw

local macro_rules | `(tactic| walk_at "sm") => `(tactic| first | assumption | exact Sm.lit200 (by decide) | (apply Sm.mul; walk_at "sm"; walk_at "sm") | (apply Sm.add2; walk_at "sm"; walk_at "sm") | (apply Sm.sub2; walk_at "sm"; walk_at "sm") | (apply Sm.neg; walk_at "sm"))
local macro_rules | `(tactic| walk_at "mo") => `(tactic| (apply mulOk_any; walk_at "sm"; walk_at "sm"; decide))
local macro_rules | `(tactic| walk_at "ds") => `(tactic| first | assumption | rfl | exact Nat.le_of_ble_eq_true rfl | walk_at "mo" | decide | omega)
local macro_rules | `(tactic| walk_at "tw") => `(tactic| simp (disch := walk_at "ds") only [↓y_nox, ↓y_seq, ↓y_mvZ, ↓y_mvS, ↓y_c, ↓y_op, ↓y_un, ↓y_b, ↓y_asB, ↓y_and, ↓y_or, ↓y_not, ↓y_andV, ↓y_orV, ↓y_notV, ↓y_ifE, ↓y_ch, ↓y_nil, ↓y_cons, ↓y_call, ↓y_callD, ↓y_iL, ↓y_iT, ↓y_asL, ↓y_asT, ↓y_iS, ↓y_asSl, ↓y_asSt, ↓y_iR1, ↓y_iR2, ↓y_iZ, ↓y_iN, ↓y_iOw, ↓y_zll, ↓y_zlt, ↓y_ztl, ↓y_ztt, ↓y_enl, ↓y_ent, ↓y_rng, ↓y_zNx, ↓y_zBk, ↓y_zCt, ↓y_ex, ↓y_ret, ↓y_retN, ↓y_if, ↓y_raise, ↓y_raiseN, ↓y_asg, ↓y_gnm, ↓y_par, ↓y_gcn, ↓y_gnl, ↓y_gtm2, ↓y_gtm3, ↓y_addI, ↓y_add, ↓y_sub, ↓y_neg, ↓y_lt, ↓y_le, ↓y_gt, ↓y_ge, ↓y_eqi, ↓y_eqb, ↓y_eqs, ↓y_nei, ↓y_neb, ↓y_nes, ↓y_isb, ↓y_nob, ↓y_lenl, ↓y_lent, ↓y_tuple_l, ↓y_tuple_t, ↓y_list_l, ↓y_list_t, ↓y_int, ↓y_abs, ↓y_gcd, ↓y_max2, ↓y_lst, ↓y_tup, ↓y_mul, ↓y_fld, ↓y_meth, ↓y_prop, ↓y_isI, ↓y_mk, ↓y_bget, ↓y_sfor, ↓y_mdef, ↓y_oA, oAK_exc, oAK_nx, backOf_bl, backOf_nx, y_isiX, y_isiXt, ↓y_xf, y_xf1, eq_self, ↓y_par3, ↓parK3_ok, ↓y_cmS, ↓y_cmSK, ↓y_mkV, ↓y_mkVK, ↓y_isNon, ↓y_sl, ↓y_part, ↓y_no, ↓y_pi, ↓y_sll, ↓y_slt, ↓y_cat, ↓y_mbind, ↓y_obind, ↓obind_exc, ↓y_sof, ↓sof_exc, ↓seqk_nx, ↓seqk_ret, ↓seqk_bk, ↓seqk_ct, ↓seqk_exc, ↓noxk_ok, ↓gok_some, ↓parK_ok, ↓gcK_some, ↓retk_nx, ↓retk_ret, ↓retk_exc, ↓y_mret, y_obind, obind_exc, y_sof, sof_exc, seqk_nx, seqk_ret, seqk_bk, seqk_ct, seqk_exc, noxk_ok, gok_some, parK_ok, gcK_some, retk_nx, retk_ret, retk_exc, y_mret, ↓reduceIte, reduceIte, ↓y_set0, ↓y_setS, startL,
  int2c, mul_eq, fdv_eq, fdv_64, fmd_eq, ne_eq, not_false_eq_true, Int.reduceEq, Nat.reduceLeDiff, Int.reduceAdd, Int.reduceNeg, Int.reduceLT, Int.reduceLE, Int.reduceSub, Nat.reduceEqDiff, Nat.reduceLT, p9, p15, p18, p20, p30, p6, beq_self_eq_true, isNo, notNo, itemD, bagGet, bagPut, Pen.bget, Pen.bput, objPut, at0, at1, at2, isiA_int, isiA_bl, isiA_non, isiA_str, isiA_tup, isiA_lst, ii_int, ii_bool, ib_int, ib_bool, in_int, is_int, it_int, il_int, it_tuple, il_tuple, in_bool, is_bool, it_bool, il_bool,
  List.map_cons, List.map_nil, List.length_cons, List.length_nil, List.cons_append, List.nil_append, List.append_nil, List.getElem?_cons_zero, List.getElem?_cons_succ, List.replicate_succ, List.replicate_zero, Nat.reduceSub, Nat.reduceAdd, if_true, if_false, decide_eq_true_eq, Bool.not_eq_true', Bool.true_eq_false, Bool.false_eq_true, decide_true, decide_false, Bool.not_true, Bool.not_false, ite_true, ite_false, List.length_map, and_true, true_and, and_false, false_and, and_self, or_true, true_or, or_false, false_or, not_true_eq_false, Bool.not_eq_false, Bool.not_eq_true, decide_eq_false_iff_not, Int.sub_self, Bool.and_self, Bool.or_self, Bool.true_or, Bool.or_true, Bool.false_or, Bool.or_false, Bool.true_and, Bool.and_true, Bool.and_false, Bool.false_and, ↓zansE_6_9, ↓zansE_6_3, ↓zansE_1_9, ↓zansE_1_3, ↓zansE_2_9, ↓zansE_2_3, ↓zansE_8_9, ↓zansE_8_3, ↓zansE_9_9, ↓zansE_9_3, ↓zansE_5_9, ↓zansE_5_3, ↓zansE_3_9, ↓zansE_3_3, ↓zans_12_10, ↓zans_12_11, ↓zans_12_13, ↓zans_12_bool, ↓zans_12_int, ↓zans_12_list, ↓zans_12_tuple, ↓zans_10_10, ↓zans_10_11, ↓zans_10_13, ↓zans_10_bool, ↓zans_10_int, ↓zans_10_list, ↓zans_10_tuple, ↓zans_11_10, ↓zans_11_11, ↓zans_11_13, ↓zans_11_bool, ↓zans_11_int, ↓zans_11_list, ↓zans_11_tuple, ↓zans_13_10, ↓zans_13_11, ↓zans_13_13, ↓zans_13_bool, ↓zans_13_int, ↓zans_13_list, ↓zans_13_tuple, ↓zans_NoneType_10, ↓zans_NoneType_11, ↓zans_NoneType_13, ↓zans_14_10, ↓zans_14_11, ↓zans_14_13, ↓zans_14_bool, ↓zans_14_int, ↓zans_14_list, ↓zans_14_tuple, ↓zans_bool_10, ↓zans_bool_11, ↓zans_bool_13, ↓zans_int_10, ↓zans_int_11, ↓zans_int_13, ↓zans_list_10, ↓zans_list_11, ↓zans_list_13, ↓zans_str_10, ↓zans_str_11, ↓zans_str_13, ↓zans_tuple_10, ↓zans_tuple_11, ↓zans_tuple_13, Int.reduceMul, ↓y_fldW, ↓y_Mt, ↓y_Ma, ↓y_Mu, ↓y_Mi, ↓y_Bj, ↓y_Bs, ↓y_Bc, ↓y_BI, *])
theorem okj {a b c d : Int} (h1 : Far a) (h2 : Far b) (h3 : Far c) (h4 : Far d) (h5 : ¬ (a = c ∧ b = d)) : OkJ ⟨a, b, c, d⟩ := ⟨h1, h2, h3, h4, h5⟩
theorem joint_fin {x0 x1 x2 x3 x4 x7 x8 x9 : Option D} {xi yi xo yo : Int} (s : Pen) (h1 : Far xi) (h2 : Far yi) (h3 : Far xo) (h4 : Far yo) : ∃ j, sseq b__law_joint_2 b__law_joint_3 [x0, x1, x2, x3, x4, some (.tup [.int xo, .int yo]), some (.tup [.int xi, .int yi]), x7, x8, x9] s = .ret (dj j) s ∧ OkJ j := by
  have q := eqT2 xi yi xo yo
  by_cases z : xi = xo ∧ yi = yo
  · rw [decide_eq_true z] at q
    obtain ⟨za, zb⟩ := z
    by_cases hy : 0 < yo
    · refine ⟨⟨xi, yi, xo, yo - 1⟩, ?_, okj h1 h2 h3 ?_ ?_⟩
      · clear h1 h2 h3 h4 za zb
        unfold b__law_joint_2 b__law_joint_3 dj
        walk_at "tw"
      · unfold Far at *; omega
      · rintro ⟨_, w⟩
        omega
    · refine ⟨⟨xi, yi, xo, yo + 1⟩, ?_, okj h1 h2 h3 ?_ ?_⟩
      · clear h1 h2 h3 h4 za zb
        unfold b__law_joint_2 b__law_joint_3 dj
        walk_at "tw"
      · unfold Far at *; omega
      · rintro ⟨_, w⟩
        omega
  · refine ⟨⟨xi, yi, xo, yo⟩, ?_, h1, h2, h3, h4, z⟩
    rw [decide_eq_false z] at q
    clear h1 h2 h3 h4 z
    unfold b__law_joint_2 b__law_joint_3 dj
    walk_at "tw"
theorem of_ints (s : Pen) (ns : List Int) (h : 0 < ns.length) (hl : ns.length ≤ 1000) : ∃ n s', m__law_of [.bag, .lst (is ns)] s = .ok (.int n) s' ∧ n ∈ ns ∧ s'.obj = s.obj ∧ s'.ocls = s.ocls := by
  obtain ⟨d, s', e, hd, o, g⟩ := of_ok s (is ns) (by rw [is_len]; exact h) (by rw [is_len]; exact hl)
  obtain ⟨n, hn, rfl⟩ := is_mem hd
  exact ⟨n, s', e, hn, o, g⟩
theorem joint_new (s : Pen) {x y kind sl : Int} (hx : 0 ≤ x ∧ x ≤ 100) (hy : 0 ≤ y ∧ y ≤ 100) (hk : kind = 0 ∨ kind = 1 ∨ kind = 2 ∨ kind = 3) (hs : -2 ≤ sl ∧ sl ≤ 1) : ∃ j s', m__law_joint [.bag, .int x, .int y, .int kind, .int sl] s = .ok (dj j) s' ∧ OkJ j ∧ s'.obj = s.obj ∧ s'.ocls = s.ocls := by
  have far : ∀ {z : Int}, -1000000 ≤ z → z ≤ 1000000 → Far z := fun h1 h2 => ⟨h1, h2⟩
  rcases hk with rfl | rfl | rfl | rfl
  · obtain ⟨d1, s1, e1, m1, o1, g1⟩ := of_ints s [0, 0, 0, 1, -1] (by decide) (by decide)
    obtain ⟨d2, s2, e2, m2, o2, g2⟩ := of_ints s1 [0, 0, 0, 1, -1] (by decide) (by decide)
    obtain ⟨d3, s3, e3, m3, o3, g3⟩ := of_ints s2 [0, 0, 0, 1, -1] (by decide) (by decide)
    obtain ⟨v, s4, e4, v0, v1, o4, g4⟩ := take_ok s3 3 (by decide) (by decide)
    have sm : ∀ d : Int, d ∈ [(0 : Int), 0, 0, 1, -1] → -1 ≤ d ∧ d ≤ 1 := by decide
    have b1 := sm d1 m1
    have b2 := sm d2 m2
    have b3 := sm d3 m3
    refine ⟨⟨x + d1, y + d2, x + d1 + d3, y + d2 + 1 + v⟩, s4, mdef_ret ?_, okj (far (by omega) (by omega)) (far (by omega) (by omega)) (far (by omega) (by omega)) (far (by omega) (by omega)) (by rintro ⟨_, w⟩; omega), by rw [o4, o3, o2, o1], by rw [g4, g3, g2, g1]⟩
    have e1' : m__law_of [.bag, .lst [.int 0, .int 0, .int 0, .int 1, .int (-1)]] s = .ok (.int d1) s1 := e1
    have e2' : m__law_of [.bag, .lst [.int 0, .int 0, .int 0, .int 1, .int (-1)]] s1 = .ok (.int d2) s2 := e2
    have e3' : m__law_of [.bag, .lst [.int 0, .int 0, .int 0, .int 1, .int (-1)]] s2 = .ok (.int d3) s3 := e3
    clear sm b1 b2 b3 m1 m2 m3 v0 v1 hx hy hs e1 e2 e3 o1 o2 o3 o4 g1 g2 g3 g4 far
    unfold b__law_joint b__law_joint_0 dj
    walk_at "tw"
  · obtain ⟨v1, s1, e1, a1, c1, o1, g1⟩ := take_ok s 4 (by decide) (by decide)
    obtain ⟨v2, s2, e2, a2, c2, o2, g2⟩ := take_ok s1 4 (by decide) (by decide)
    obtain ⟨v3, s3, e3, a3, c3, o3, g3⟩ := take_ok s2 4 (by decide) (by decide)
    obtain ⟨v4, s4, e4, a4, c4, o4, g4⟩ := take_ok s3 4 (by decide) (by decide)
    obtain ⟨j, ej, hj⟩ := joint_fin (x0 := some .bag) (x1 := some (.int x)) (x2 := some (.int y)) (x3 := some (.int 1)) (x4 := some (.int sl)) (x7 := none) (x8 := none) (x9 := none) s4 (xi := v1) (yi := v2) (xo := v3) (yo := v4) (far (by omega) (by omega)) (far (by omega) (by omega)) (far (by omega) (by omega)) (far (by omega) (by omega))
    refine ⟨j, s4, mdef_ret ?_, hj, by rw [o4, o3, o2, o1], by rw [g4, g3, g2, g1]⟩
    have p0 : b__law_joint_0 [some .bag, some (.int x), some (.int y), some (.int 1), some (.int sl), none, none, none, none, none] s = .nx [some .bag, some (.int x), some (.int y), some (.int 1), some (.int sl), none, none, none, none, none] s := by
      clear ej hj a1 a2 a3 a4 c1 c2 c3 c4 o1 o2 o3 o4 g1 g2 g3 g4 hx hy hs far
      unfold b__law_joint_0
      walk_at "tw"
    have p1 : b__law_joint_1 [some .bag, some (.int x), some (.int y), some (.int 1), some (.int sl), none, none, none, none, none] s = .nx [some .bag, some (.int x), some (.int y), some (.int 1), some (.int sl), some (.tup [.int v3, .int v4]), some (.tup [.int v1, .int v2]), none, none, none] s4 := by
      clear ej hj a1 a2 a3 a4 c1 c2 c3 c4 o1 o2 o3 o4 g1 g2 g3 g4 hx hy hs far p0
      unfold b__law_joint_1
      walk_at "tw"
    exact sseq_nx' p0 (sseq_nx' p1 ej)
  · obtain ⟨v1, s1, e1, a1, c1, o1, g1⟩ := take_ok s 9 (by decide) (by decide)
    obtain ⟨d2, s2, e2, m2, o2, g2⟩ := of_ints s1 [1, 1, 2, 3, -1] (by decide) (by decide)
    have b2 : -1 ≤ d2 ∧ d2 ≤ 3 := (show ∀ d : Int, d ∈ [(1 : Int), 1, 2, 3, -1] → -1 ≤ d ∧ d ≤ 3 by decide) d2 m2
    have e2' : m__law_of [.bag, .lst [.int 1, .int 1, .int 2, .int 3, .int (-1)]] s1 = .ok (.int d2) s2 := e2
    have w1 : -20 ≤ sl * v1 ∧ sl * v1 ≤ 20 := by
      have : sl = -2 ∨ sl = -1 ∨ sl = 0 ∨ sl = 1 := by omega
      rcases this with rfl | rfl | rfl | rfl <;> omega
    have w2 : -30 ≤ sl * (v1 + d2) ∧ sl * (v1 + d2) ≤ 30 := by
      have : sl = -2 ∨ sl = -1 ∨ sl = 0 ∨ sl = 1 := by omega
      rcases this with rfl | rfl | rfl | rfl <;> omega
    obtain ⟨j, ej, hj⟩ := joint_fin (x0 := some .bag) (x1 := some (.int x)) (x2 := some (.int y)) (x3 := some (.int 2)) (x4 := some (.int sl)) (x7 := some (.int v1)) (x8 := some (.int (v1 + d2))) (x9 := none) s2 (xi := v1) (yi := sl * v1) (xo := v1 + d2) (yo := sl * (v1 + d2)) (far (by omega) (by omega)) (far (by omega) (by omega)) (far (by omega) (by omega)) (far (by omega) (by omega))
    refine ⟨j, s2, mdef_ret ?_, hj, by rw [o2, o1], by rw [g2, g1]⟩
    have k1 : mulOk sl v1 = true := mulOk_r (by omega)
    have k2 : mulOk sl (v1 + d2) = true := mulOk_r (by omega)
    have p0 : b__law_joint_0 [some .bag, some (.int x), some (.int y), some (.int 2), some (.int sl), none, none, none, none, none] s = .nx [some .bag, some (.int x), some (.int y), some (.int 2), some (.int sl), none, none, none, none, none] s := by
      clear ej hj a1 c1 b2 m2 w1 w2 k1 k2 o1 o2 g1 g2 hx hy hs far e2
      unfold b__law_joint_0
      walk_at "tw"
    have p1 : b__law_joint_1 [some .bag, some (.int x), some (.int y), some (.int 2), some (.int sl), none, none, none, none, none] s = .nx [some .bag, some (.int x), some (.int y), some (.int 2), some (.int sl), some (.tup [.int (v1 + d2), .int (sl * (v1 + d2))]), some (.tup [.int v1, .int (sl * v1)]), some (.int v1), some (.int (v1 + d2)), none] s2 := by
      clear ej hj a1 c1 b2 m2 w1 w2 o1 o2 g1 g2 hx hy hs far e2 p0
      unfold b__law_joint_1
      walk_at "tw"
    exact sseq_nx' p0 (sseq_nx' p1 ej)
  · obtain ⟨v1, s1, e1, a1, c1, o1, g1⟩ := take_ok s 2000001 (by decide) (by decide)
    obtain ⟨v2, s2, e2, a2, c2, o2, g2⟩ := take_ok s1 2000001 (by decide) (by decide)
    obtain ⟨v3, s3, e3, a3, c3, o3, g3⟩ := take_ok s2 2000001 (by decide) (by decide)
    obtain ⟨v4, s4, e4, a4, c4, o4, g4⟩ := take_ok s3 2000001 (by decide) (by decide)
    obtain ⟨j, ej, hj⟩ := joint_fin (x0 := some .bag) (x1 := some (.int x)) (x2 := some (.int y)) (x3 := some (.int 3)) (x4 := some (.int sl)) (x7 := none) (x8 := none) (x9 := some (.int 2000001)) s4 (xi := v1 - 1000000) (yi := v2 - 1000000) (xo := v3 - 1000000) (yo := v4 - 1000000) (far (by omega) (by omega)) (far (by omega) (by omega)) (far (by omega) (by omega)) (far (by omega) (by omega))
    refine ⟨j, s4, mdef_ret ?_, hj, by rw [o4, o3, o2, o1], by rw [g4, g3, g2, g1]⟩
    have k1 : mulI (.int 2) (.int 1000000) = mret (.int 2000000) := rfl
    have p0 : b__law_joint_0 [some .bag, some (.int x), some (.int y), some (.int 3), some (.int sl), none, none, none, none, none] s = .nx [some .bag, some (.int x), some (.int y), some (.int 3), some (.int sl), none, none, none, none, none] s := by
      clear ej hj a1 a2 a3 a4 c1 c2 c3 c4 o1 o2 o3 o4 g1 g2 g3 g4 hx hy hs far
      unfold b__law_joint_0
      walk_at "tw"
    have p1 : b__law_joint_1 [some .bag, some (.int x), some (.int y), some (.int 3), some (.int sl), none, none, none, none, none] s = .nx [some .bag, some (.int x), some (.int y), some (.int 3), some (.int sl), some (.tup [.int (v3 - 1000000), .int (v4 - 1000000)]), some (.tup [.int (v1 - 1000000), .int (v2 - 1000000)]), none, none, some (.int 2000001)] s4 := by
      clear ej hj a1 a2 a3 a4 c1 c2 c3 c4 o1 o2 o3 o4 g1 g2 g3 g4 hx hy hs far p0
      unfold b__law_joint_1
      have h6 : mulI (.int 2) (.int 1000000) = mret (.int 2000000) := rfl
      walk_at "tw"
    exact sseq_nx' p0 (sseq_nx' p1 ej)
theorem in_two (a b c : Int) : inA false (.int a) (.tup [.int b, .int c]) = mret (.bl (false ^^ (b == a || (c == a || false)))) := rfl
theorem joints_of : ∀ ys : List D, (∀ y ∈ ys, ∃ j, y = dj j ∧ OkJ j) → ∃ J : List Jt, ys = J.map dj ∧ Ok J
  | [], _ => ⟨[], rfl, fun _ h => (List.not_mem_nil h).elim⟩
  | y :: ys, h => by
    obtain ⟨j, rfl, h1⟩ := h y List.mem_cons_self
    obtain ⟨J, rfl, hb⟩ := joints_of ys fun z hz => h z (List.mem_cons_of_mem _ hz)
    refine ⟨j :: J, rfl, fun m hm => ?_⟩
    rcases List.mem_cons.mp hm with rfl | hm
    · exact h1
    · exact hb m hm
theorem joints_new (s : Pen) : ∃ (J : List Jt) (s' : Pen), m__law_joints [.bag, .int 4] s = .ok (.lst (J.map dj)) s' ∧ Ok J ∧ 2 ≤ J.length ∧ J.length ≤ 5 ∧ s'.obj = s.obj ∧ s'.ocls = s.ocls := by
  obtain ⟨kind, s1, e1, m1, o1, g1⟩ := of_ints s [0, 0, 0, 0, 1, 1, 2, 3] (by decide) (by decide)
  obtain ⟨sl, s2, e2, m2, o2, g2⟩ := of_ints s1 [0, 1, -2] (by decide) (by decide)
  obtain ⟨last, s3, e3, m3, o3, g3⟩ := of_ints s2 [4, 4, 4, 4, 3, 3, 1] (by decide) (by decide)
  obtain ⟨rise, s4, e4, m4, o4, g4⟩ := of_ints s3 [0, 2, 4, 6, 8] (by decide) (by decide)
  have b1 : kind = 0 ∨ kind = 1 ∨ kind = 2 ∨ kind = 3 := (show ∀ d : Int, d ∈ [(0 : Int), 0, 0, 0, 1, 1, 2, 3] → d = 0 ∨ d = 1 ∨ d = 2 ∨ d = 3 by decide) kind m1
  have b2 : -2 ≤ sl ∧ sl ≤ 1 := (show ∀ d : Int, d ∈ [(0 : Int), 1, -2] → -2 ≤ d ∧ d ≤ 1 by decide) sl m2
  have b3 : 1 ≤ last ∧ last ≤ 4 := (show ∀ d : Int, d ∈ [(4 : Int), 4, 4, 4, 3, 3, 1] → 1 ≤ d ∧ d ≤ 4 by decide) last m3
  have b4 : 0 ≤ rise ∧ rise ≤ 8 := (show ∀ d : Int, d ∈ [(0 : Int), 2, 4, 6, 8] → 0 ≤ d ∧ d ≤ 8 by decide) rise m4
  have e1' : m__law_of [.bag, .lst [.int 0, .int 0, .int 0, .int 0, .int 1, .int 1, .int 2, .int 3]] s = .ok (.int kind) s1 := e1
  have e2' : m__law_of [.bag, .lst [.int 0, .int 1, .int (-2)]] s1 = .ok (.int sl) s2 := e2
  have e3' : m__law_of [.bag, .lst [.int 4, .int 4, .int 4, .int 4, .int 3, .int 3, .int 1]] s2 = .ok (.int last) s3 := e3
  have e4' : m__law_of [.bag, .lst [.int 0, .int 2, .int 4, .int 6, .int 8]] s3 = .ok (.int rise) s4 := e4
  obtain ⟨l, rfl⟩ := Int.eq_ofNat_of_zero_le (show 0 ≤ last by omega)
  clear e1 e2 e3 e4 m1 m2 m3 m4
  have r : rng1 [.int (((l : Nat) : Int) + 1)] = mret (rngL 0 (l + 1)) := rng_one (by omega) (by omega)
  have l0 : (rngL 0 (l + 1)).length = l + 1 := by rw [rngL_eq, List.length_map, List.length_range']
  have main : ∃ ys s', kLc (iR1 (aCons (kOp addIL (mvar 4) (kC (.int 1))) aNil)) (gnm 6) (fun _ => mret true) (kCall m__law_joint (aCons (mvar 0) (aCons (kOp mulI (kC (.int 8)) (mvar 6)) (aCons (kIf (kB (kOp (inA false) (mvar 6) (kCall tupD (aCons (kC (.int 0)) (aCons (mvar 4) aNil))))) (kC (.int 0)) (mvar 5)) (aCons (mvar 2) (aCons (mvar 3) aNil)))))) [6] [some .bag, some (.int 4), some (.int kind), some (.int sl), some (.int (l : Nat)), some (.int rise), none] s4 = .ok (.lst ys) s' ∧ ys.length = (rngL 0 (l + 1)).length ∧ (∀ y ∈ ys, ∃ j, y = dj j ∧ OkJ j) ∧ (s'.obj = s.obj ∧ s'.ocls = s.ocls) := by
    have hr : iR1 (aCons (kOp addIL (mvar 4) (kC (.int 1))) aNil) [some .bag, some (.int 4), some (.int kind), some (.int sl), some (.int (l : Nat)), some (.int rise), none] s4 = .ok (rngL 0 (l + 1)) s4 := by
      clear e1' e2' e3' e4' b1 b2 b3 b4 l0 o1 o2 o3 o4 g1 g2 g3 g4
      walk_at "tw"
    refine lc_any (fun y => ∃ j, y = dj j ∧ OkJ j) (fun s' => s'.obj = s.obj ∧ s'.ocls = s.ocls) hr (by rw [l0]; omega) ⟨by rw [o4, o3, o2, o1], by rw [g4, g3, g2, g1]⟩ fun d hd s5 i5 => ?_
    obtain ⟨i, hi, rfl⟩ := rng_mem hd
    have it := in_two (i : Nat) 0 (l : Nat)
    have m8 : mulOk 8 ((i : Nat) : Int) = true := mulOk_l (by decide)
    generalize (false ^^ ((0 : Int) == ((i : Nat) : Int) || (((l : Nat) : Int) == ((i : Nat) : Int) || false))) = q at it
    cases q
    · obtain ⟨j, s6, e6, hj, o6, g6⟩ := joint_new s5 (x := 8 * ((i : Nat) : Int)) (y := rise) (kind := kind) (sl := sl) (by omega) (by omega) b1 b2
      refine ⟨[some .bag, some (.int 4), some (.int kind), some (.int sl), some (.int (l : Nat)), some (.int rise), some (.int (i : Nat))], dj j, s6, rfl, ?_, ⟨j, rfl, hj⟩, by rw [o6, i5.1], by rw [g6, i5.2]⟩
      clear e1' e2' e3' e4' b1 b2 b3 b4 l0 o1 o2 o3 o4 g1 g2 g3 g4 hr hd hi hj i5 o6 g6 r
      walk_at "tw"
    · obtain ⟨j, s6, e6, hj, o6, g6⟩ := joint_new s5 (x := 8 * ((i : Nat) : Int)) (y := 0) (kind := kind) (sl := sl) (by omega) (by omega) b1 b2
      refine ⟨[some .bag, some (.int 4), some (.int kind), some (.int sl), some (.int (l : Nat)), some (.int rise), some (.int (i : Nat))], dj j, s6, rfl, ?_, ⟨j, rfl, hj⟩, by rw [o6, i5.1], by rw [g6, i5.2]⟩
      clear e1' e2' e3' e4' b1 b2 b3 b4 l0 o1 o2 o3 o4 g1 g2 g3 g4 hr hd hi hj i5 o6 g6 r
      walk_at "tw"
  obtain ⟨ys, s', em, hl, hp, o, g⟩ := main
  obtain ⟨J, rfl, hb⟩ := joints_of ys hp
  rw [List.length_map, l0] at hl
  refine ⟨J, s', mdef_ret ?_, hb, by omega, by omega, o, g⟩
  clear b1 b2 b3 b4 l0 o1 o2 o3 o4 g1 g2 g3 g4 hl hp hb o g r
  unfold b__law_joints b__law_joints_0 b__law_joints_1 b__law_joints_2
  walk_at "tw"
theorem nats_of : ∀ ys : List D, (∀ y ∈ ys, ∃ n : Int, y = .int n ∧ 0 ≤ n) → ∃ ns : List Int, ys = is ns ∧ ∀ n ∈ ns, 0 ≤ n
  | [], _ => ⟨[], rfl, fun _ h => (List.not_mem_nil h).elim⟩
  | y :: ys, h => by
    obtain ⟨n, rfl, h0⟩ := h y List.mem_cons_self
    obtain ⟨ns, rfl, hb⟩ := nats_of ys fun z hz => h z (List.mem_cons_of_mem _ hz)
    refine ⟨n :: ns, rfl, fun m hm => ?_⟩
    rcases List.mem_cons.mp hm with rfl | hm
    · exact h0
    · exact hb m hm
theorem numbers_new (s : Pen) {c : Nat} (hc : c ≤ 1000) : ∃ (ns : List Int) (s' : Pen), m__law_numbers [.bag, .int (c : Nat)] s = .ok (.lst (is ns)) s' ∧ ns.length = c ∧ (∀ n ∈ ns, 0 ≤ n) ∧ s'.obj = s.obj ∧ s'.ocls = s.ocls := by
  obtain ⟨f, s1, e1, m1, o1, g1⟩ := of_ints s [1, 1, 1, 100000000000000000000000000000] (by decide) (by decide)
  have f0 : 0 ≤ f := (show ∀ d : Int, d ∈ [(1 : Int), 1, 1, 100000000000000000000000000000] → 0 ≤ d by decide) f m1
  have e1' : m__law_of [.bag, .lst [.int 1, .int 1, .int 1, .int 100000000000000000000000000000]] s = .ok (.int f) s1 := e1
  have p29 : powI (.int 10) (.int 29) = mret (.int 100000000000000000000000000000) := rfl
  have r : rng1 [.int (c : Nat)] = mret (rngL 0 c) := rng_one rfl (by omega)
  have l0 : (rngL 0 c).length = c := by rw [rngL_eq, List.length_map, List.length_range']
  clear e1 m1
  have main : ∃ ys s', kLc (iR1 (aCons (mvar 1) aNil)) (gnm 3) (fun _ => mret true) (kOp mulI (mvar 2) (kCall m__law_of (aCons (mvar 0) (aCons (kCall lstD (aCons (kC (.int 0)) (aCons (kC (.int 0)) (aCons (kC (.int 0)) (aCons (kC (.int 1)) (aCons (kC (.int 2)) (aCons (kC (.int 3)) (aCons (kCall m__law_take (aCons (mvar 0) (aCons (kC (.int 10)) aNil))) aNil)))))))) aNil)))) [3] [some .bag, some (.int (c : Nat)), some (.int f), none] s1 = .ok (.lst ys) s' ∧ ys.length = (rngL 0 c).length ∧ (∀ y ∈ ys, ∃ n : Int, y = .int n ∧ 0 ≤ n) ∧ (s'.obj = s.obj ∧ s'.ocls = s.ocls) := by
    have hr : iR1 (aCons (mvar 1) aNil) [some .bag, some (.int (c : Nat)), some (.int f), none] s1 = .ok (rngL 0 c) s1 := by
      clear e1' l0 o1 g1
      walk_at "tw"
    refine lc_any (fun y => ∃ n : Int, y = .int n ∧ 0 ≤ n) (fun s' => s'.obj = s.obj ∧ s'.ocls = s.ocls) hr (by rw [l0]; omega) ⟨o1, g1⟩ fun d hd s5 i5 => ?_
    obtain ⟨i, hi, rfl⟩ := rng_mem hd
    obtain ⟨t, s6, e6, t0, t1, o6, g6⟩ := take_ok s5 10 (by decide) (by decide)
    obtain ⟨v, s7, e7, hv, o7, g7⟩ := of_ints s6 [0, 0, 0, 1, 2, 3, t] (Nat.succ_pos _) (by show 7 ≤ 1000; decide)
    have vb : 0 ≤ v ∧ v < 10 := by
      simp only [List.mem_cons, List.not_mem_nil, or_false] at hv
      omega
    have e7' : m__law_of [.bag, .lst [.int 0, .int 0, .int 0, .int 1, .int 2, .int 3, .int t]] s6 = .ok (.int v) s7 := e7
    have m : mulOk f v = true := mulOk_r (by omega)
    refine ⟨[some .bag, some (.int (c : Nat)), some (.int f), some (.int (i : Nat))], .int (f * v), s7, rfl, ?_, ⟨f * v, rfl, Int.mul_nonneg f0 vb.1⟩, by rw [o7, o6, i5.1], by rw [g7, g6, i5.2]⟩
    clear e1' l0 o1 g1 hr hd hi hv vb e7 i5 o6 g6 o7 g7 r f0 t0 t1
    walk_at "tw"
  obtain ⟨ys, s', em, hl, hp, o, g⟩ := main
  obtain ⟨ns, rfl, hb⟩ := nats_of ys hp
  rw [is_len, l0] at hl
  refine ⟨ns, s', mdef_ret ?_, hl, hb, o, g⟩
  clear l0 o1 g1 hl hp hb o g r f0
  unfold b__law_numbers b__law_numbers_0 b__law_numbers_1
  walk_at "tw"
end K13

set_option Elab.async false
set_option linter.all false
set_option maxRecDepth 100000
set_option maxHeartbeats 4000000
set_option autoImplicit false
namespace K13
open PySem L2 Tw

local macro_rules | `(tactic| walk_at "sm") => `(tactic| first | assumption | exact Sm.lit200 (by decide) | (apply Sm.mul; walk_at "sm"; walk_at "sm") | (apply Sm.add2; walk_at "sm"; walk_at "sm") | (apply Sm.sub2; walk_at "sm"; walk_at "sm") | (apply Sm.neg; walk_at "sm"))
local macro_rules | `(tactic| walk_at "mo") => `(tactic| (apply mulOk_any; walk_at "sm"; walk_at "sm"; decide))
local macro_rules | `(tactic| walk_at "ds") => `(tactic| first | assumption | rfl | exact Nat.le_of_ble_eq_true rfl | walk_at "mo" | decide | omega)
local macro_rules | `(tactic| walk_at "tw") => `(tactic| simp (disch := walk_at "ds") only [↓y_nox, ↓y_seq, ↓y_mvZ, ↓y_mvS, ↓y_c, ↓y_op, ↓y_un, ↓y_b, ↓y_asB, ↓y_and, ↓y_or, ↓y_not, ↓y_andV, ↓y_orV, ↓y_notV, ↓y_ifE, ↓y_ch, ↓y_nil, ↓y_cons, ↓y_call, ↓y_callD, ↓y_iL, ↓y_iT, ↓y_asL, ↓y_asT, ↓y_iS, ↓y_asSl, ↓y_asSt, ↓y_iR1, ↓y_iR2, ↓y_iZ, ↓y_iN, ↓y_iOw, ↓y_zll, ↓y_zlt, ↓y_ztl, ↓y_ztt, ↓y_enl, ↓y_ent, ↓y_rng, ↓y_zNx, ↓y_zBk, ↓y_zCt, ↓y_ex, ↓y_ret, ↓y_retN, ↓y_if, ↓y_raise, ↓y_raiseN, ↓y_asg, ↓y_gnm, ↓y_par, ↓y_gcn, ↓y_gnl, ↓y_gtm2, ↓y_gtm3, ↓y_addI, ↓y_add, ↓y_sub, ↓y_neg, ↓y_lt, ↓y_le, ↓y_gt, ↓y_ge, ↓y_eqi, ↓y_eqb, ↓y_eqs, ↓y_nei, ↓y_neb, ↓y_nes, ↓y_isb, ↓y_nob, ↓y_lenl, ↓y_lent, ↓y_tuple_l, ↓y_tuple_t, ↓y_list_l, ↓y_list_t, ↓y_int, ↓y_abs, ↓y_gcd, ↓y_max2, ↓y_lst, ↓y_tup, ↓y_mul, ↓y_fld, ↓y_meth, ↓y_prop, ↓y_isI, ↓y_mk, ↓y_bget, ↓y_sfor, ↓y_mdef, ↓y_oA, oAK_exc, oAK_nx, backOf_bl, backOf_nx, y_isiX, y_isiXt, ↓y_xf, y_xf1, eq_self, ↓y_par3, ↓parK3_ok, ↓y_cmS, ↓y_cmSK, ↓y_mkV, ↓y_mkVK, ↓y_isNon, ↓y_sl, ↓y_part, ↓y_no, ↓y_pi, ↓y_sll, ↓y_slt, ↓y_cat, ↓y_mbind, ↓y_obind, ↓obind_exc, ↓y_sof, ↓sof_exc, ↓seqk_nx, ↓seqk_ret, ↓seqk_bk, ↓seqk_ct, ↓seqk_exc, ↓noxk_ok, ↓gok_some, ↓parK_ok, ↓gcK_some, ↓retk_nx, ↓retk_ret, ↓retk_exc, ↓y_mret, y_obind, obind_exc, y_sof, sof_exc, seqk_nx, seqk_ret, seqk_bk, seqk_ct, seqk_exc, noxk_ok, gok_some, parK_ok, gcK_some, retk_nx, retk_ret, retk_exc, y_mret, ↓reduceIte, reduceIte, ↓y_set0, ↓y_setS, startL,
  int2c, mul_eq, fdv_eq, fdv_64, fmd_eq, ne_eq, not_false_eq_true, Int.reduceEq, Nat.reduceLeDiff, Int.reduceAdd, Int.reduceNeg, Int.reduceLT, Int.reduceLE, Int.reduceSub, Nat.reduceEqDiff, Nat.reduceLT, p9, p15, p18, p20, p30, p6, beq_self_eq_true, isNo, notNo, itemD, bagGet, bagPut, Pen.bget, Pen.bput, objPut, at0, at1, at2, isiA_int, isiA_bl, isiA_non, isiA_str, isiA_tup, isiA_lst, ii_int, ii_bool, ib_int, ib_bool, in_int, is_int, it_int, il_int, it_tuple, il_tuple, in_bool, is_bool, it_bool, il_bool,
  List.map_cons, List.map_nil, List.length_cons, List.length_nil, List.cons_append, List.nil_append, List.append_nil, List.getElem?_cons_zero, List.getElem?_cons_succ, List.replicate_succ, List.replicate_zero, Nat.reduceSub, Nat.reduceAdd, if_true, if_false, decide_eq_true_eq, Bool.not_eq_true', Bool.true_eq_false, Bool.false_eq_true, decide_true, decide_false, Bool.not_true, Bool.not_false, ite_true, ite_false, List.length_map, and_true, true_and, and_false, false_and, and_self, or_true, true_or, or_false, false_or, not_true_eq_false, Bool.not_eq_false, Bool.not_eq_true, decide_eq_false_iff_not, Int.sub_self, Bool.and_self, Bool.or_self, Bool.true_or, Bool.or_true, Bool.false_or, Bool.or_false, Bool.true_and, Bool.and_true, Bool.and_false, Bool.false_and, ↓zansE_6_9, ↓zansE_6_3, ↓zansE_1_9, ↓zansE_1_3, ↓zansE_2_9, ↓zansE_2_3, ↓zansE_8_9, ↓zansE_8_3, ↓zansE_9_9, ↓zansE_9_3, ↓zansE_5_9, ↓zansE_5_3, ↓zansE_3_9, ↓zansE_3_3, ↓zans_12_10, ↓zans_12_11, ↓zans_12_13, ↓zans_12_bool, ↓zans_12_int, ↓zans_12_list, ↓zans_12_tuple, ↓zans_10_10, ↓zans_10_11, ↓zans_10_13, ↓zans_10_bool, ↓zans_10_int, ↓zans_10_list, ↓zans_10_tuple, ↓zans_11_10, ↓zans_11_11, ↓zans_11_13, ↓zans_11_bool, ↓zans_11_int, ↓zans_11_list, ↓zans_11_tuple, ↓zans_13_10, ↓zans_13_11, ↓zans_13_13, ↓zans_13_bool, ↓zans_13_int, ↓zans_13_list, ↓zans_13_tuple, ↓zans_NoneType_10, ↓zans_NoneType_11, ↓zans_NoneType_13, ↓zans_14_10, ↓zans_14_11, ↓zans_14_13, ↓zans_14_bool, ↓zans_14_int, ↓zans_14_list, ↓zans_14_tuple, ↓zans_bool_10, ↓zans_bool_11, ↓zans_bool_13, ↓zans_int_10, ↓zans_int_11, ↓zans_int_13, ↓zans_list_10, ↓zans_list_11, ↓zans_list_13, ↓zans_str_10, ↓zans_str_11, ↓zans_str_13, ↓zans_tuple_10, ↓zans_tuple_11, ↓zans_tuple_13, ↓y_fldW, ↓y_Mt, ↓y_Ma, ↓y_Mu, ↓y_Mi, ↓y_Bj, ↓y_Bs, ↓y_Bc, ↓y_BI, *])
abbrev cn (J : List Jt) : Int := 2 * (J.length : Nat)
abbrev Q0 (J : List Jt) (a b : List Int) (t : Int) (x9 : Option D) : Tw.Loc := [none, some .bag, some (.lst (J.map dj)), some (.int (cn J)), none, none, some (.lst (is a)), some (.lst (is b)), some (.int t), x9, none, none, none, none, none, none, none, none]
abbrev Q (J : List Jt) (a b : List Int) (t : Int) (x4 x5 x9 x13 x14 : Option D) : Tw.Loc := [none, some .bag, some (.lst (J.map dj)), some (.int (cn J)), x4, x5, some (.lst (is a)), some (.lst (is b)), some (.int t), x9, some (B J), some (W a), some (W b), x13, x14, none, none, none]
section
variable {J : List Jt} {a b : List Int} {t : Int} {x4 x5 x9 x13 x14 : Option D} {s : Pen}
theorem L0 (s : Pen) : ∃ (J : List Jt) (s' : Pen), b_law_0 ρ0 s = .nx [none, some .bag, some (.lst (J.map dj)), none, none, none, none, none, none, none, none, none, none, none, none, none, none, none] s' ∧ Ok J ∧ 2 ≤ J.length ∧ J.length ≤ 5 := by
  obtain ⟨J, s1, e1, hJ, h2, h5, _, _⟩ := joints_new s
  refine ⟨J, s1, ?_, hJ, h2, h5⟩
  clear hJ h2 h5
  unfold b_law_0 ρ0
  walk_at "tw"
theorem L1 : b_law_1 [none, some .bag, some (.lst (J.map dj)), none, none, none, none, none, none, none, none, none, none, none, none, none, none, none] s = .nx [none, some .bag, some (.lst (J.map dj)), some (.int (cn J)), none, none, none, none, none, none, none, none, none, none, none, none, none, none] s := by
  have m2 : mulOk 2 ((J.length : Nat) : Int) = true := mulOk_l (by decide)
  unfold b_law_1
  walk_at "tw"
theorem L2 (s : Pen) (h5 : J.length ≤ 5) : ∃ (a b : List Int) (t : Int) (s' : Pen), b_law_2 [none, some .bag, some (.lst (J.map dj)), some (.int (cn J)), none, none, none, none, none, none, none, none, none, none, none, none, none, none] s = .nx (Q0 J a b t none) s' ∧ a.length = 2 * J.length ∧ b.length = 2 * J.length ∧ (∀ n ∈ a, 0 ≤ n) ∧ (∀ n ∈ b, 0 ≤ n) ∧ 0 ≤ t ∧ t ≤ 7 := by
  obtain ⟨a, s1, e1, la, na, _, _⟩ := numbers_new s (c := 2 * J.length) (by omega)
  obtain ⟨b, s2, e2, lb, nb, _, _⟩ := numbers_new s1 (c := 2 * J.length) (by omega)
  obtain ⟨t, s3, e3, m3, _, _⟩ := of_ints s2 [0, 1, 2, 7] (by decide) (by decide)
  have b3 : 0 ≤ t ∧ t ≤ 7 := (show ∀ d : Int, d ∈ [(0 : Int), 1, 2, 7] → 0 ≤ d ∧ d ≤ 7 by decide) t m3
  have e3' : m__law_of [.bag, .lst [.int 0, .int 1, .int 2, .int 7]] s2 = .ok (.int t) s3 := e3
  rw [show ((2 * J.length : Nat) : Int) = 2 * ((J.length : Nat) : Int) by omega] at e1 e2
  refine ⟨a, b, t, s3, ?_, la, lb, na, nb, b3.1, b3.2⟩
  clear la lb na nb b3 m3 e3 h5
  unfold b_law_2
  walk_at "tw"
def spot (a : List Int) (p : Int) (i : Nat) : Int := if ((i : Nat) : Int) = p then 1 + (a[i]?).getD 0 else 0
theorem L3 (s : Pen) (h2 : 2 ≤ J.length) (h5 : J.length ≤ 5) (la : a.length = 2 * J.length) (na : ∀ n ∈ a, 0 ≤ n) : ∃ (a' : List Int) (y9 : Option D) (s' : Pen), b_law_3 (Q0 J a b t none) s = .nx (Q0 J a' b t y9) s' ∧ a'.length = 2 * J.length ∧ ∀ n ∈ a', 0 ≤ n := by
  obtain ⟨v, s1, e1, _, _, _, _⟩ := take_ok s 2 (by decide) (by decide)
  by_cases z : v = 0
  · obtain ⟨p, s2, e2, _, _, _, _⟩ := take_ok s1 (2 * (J.length : Nat)) (by omega) (by
      have h : (2 * ((J.length : Nat) : Int)).natAbs ≤ 10 := by omega
      exact Nat.lt_of_le_of_lt (log2_le h) (by decide))
    have r : rng1 [.int (2 * (J.length : Nat))] = mret (rngL 0 (2 * J.length)) := rng_one (by omega) (by omega)
    have l0 : (rngL 0 (2 * J.length)).length = 2 * J.length := by rw [rngL_eq, List.length_map, List.length_range']
    have c : kLc (iR1 (aCons (mvar 3) aNil)) (gnm 15) (fun _ => mret true) (kIf (kB (kOp eqA (mvar 15) (mvar 9))) (kOp addIL (kC (.int 1)) (kOp itemD (mvar 6) (mvar 15))) (kC (.int 0))) [15] (Q0 J a b t (some (.int p))) s2 = .ok (.lst (is ((List.range (2 * J.length)).map (spot a p)))) s2 := by
      have hf : iR1 (aCons (mvar 3) aNil) (Q0 J a b t (some (.int p))) = mret (rngL 0 (2 * J.length)) := by
        funext s
        clear l0 e1 e2 la na h2 h5 z
        walk_at "tw"
      rw [lc_map (fun d => .int (spot a p (intOf d).toNat)) hf (by rw [l0]; omega) fun d hd => by
        obtain ⟨i, hi, rfl⟩ := rng_mem hd
        obtain ⟨m, g⟩ : ∃ m, a[i]? = some m := ⟨_, List.getElem?_eq_getElem (show i < a.length by omega)⟩
        have at1 := at_is g
        refine ⟨[none, some .bag, some (.lst (J.map dj)), some (.int (cn J)), none, none, some (.lst (is a)), some (.lst (is b)), some (.int t), some (.int p), none, none, none, none, none, some (.int (i : Nat)), none, none], rfl, ?_⟩
        funext s
        show _ = mret (D.int (spot a p ((i : Nat) : Int).toNat)) s
        rw [Int.toNat_natCast]
        unfold spot
        rw [g]
        by_cases q : ((i : Nat) : Int) = p
        · rw [if_pos q]
          show _ = mret (D.int (1 + m)) s
          have q' : (((i : Nat) : Int) = p) = True := eq_true q
          clear q g hi hd hf e1 e2 la na h2 h5 z l0 r
          walk_at "tw"
        · rw [if_neg q]
          have q' : (((i : Nat) : Int) = p) = False := eq_false q
          clear q g hi hd hf e1 e2 la na h2 h5 z l0 r
          walk_at "tw"]
      have hl : (rngL 0 (2 * J.length)).map (fun d => D.int (spot a p (intOf d).toNat)) = is ((List.range (2 * J.length)).map (spot a p)) := by
        unfold rngL
        show _ = ((List.range (2 * J.length)).map (spot a p)).map D.int
        rw [List.map_map, List.map_map]
        refine List.map_congr_left fun i _ => ?_
        show D.int (spot a p ((0 + ((i : Nat) : Int)).toNat)) = D.int (spot a p i)
        rw [Int.zero_add, Int.toNat_natCast]
      rw [hl]
      rfl
    refine ⟨(List.range (2 * J.length)).map (spot a p), some (.int p), s2, ?_, by rw [List.length_map, List.length_range], fun n hn => ?_⟩
    · generalize (List.range (2 * J.length)).map (spot a p) = X at *
      clear la na h2 h5 l0 r
      unfold b_law_3
      walk_at "tw"
    · obtain ⟨i, hi, rfl⟩ := List.mem_map.mp hn
      unfold spot
      split
      · cases q : a[i]? with
        | none => decide
        | some m =>
          have := na m (List.mem_of_getElem? q)
          show 0 ≤ 1 + m
          omega
      · decide
  · refine ⟨a, none, s1, ?_, la, na⟩
    clear la na h2 h5
    unfold b_law_3
    walk_at "tw"
theorem fitN (h2 : 2 ≤ J.length) (h5 : J.length ≤ 5) {ns : List Int} (l : ns.length = 2 * J.length) (n : ∀ m ∈ ns, 0 ≤ m) : Nn ns := ⟨⟨by omega, by omega, by omega⟩, n⟩
theorem L4 (hJ : Ok J) (h2 : 2 ≤ J.length) (h5 : J.length ≤ 5) (ha : Nn a) (hb : Nn b) : b_law_4 (Q0 J a b t x9) s = .nx (Q J a b t none none x9 none none) s := by
  have k := mk_b hJ h2 (by omega)
  have k1 := fun s => mkD_ap (d := .lst (is a)) rfl ha s
  have k2 := fun s => mkD_ap (d := .lst (is b)) rfl hb s
  clear hJ h2 h5 ha hb
  unfold b_law_4
  walk_at "tw"
theorem L5 (hJ : Ok J) (h2 : 2 ≤ J.length) (h5 : J.length ≤ 5) (la : a.length = 2 * J.length) : b_law_5 (Q J a b t x4 x5 x9 x13 x14) s = .nx (Q J a b t (some (.tup (told J a))) x5 x9 x13 x14) s := by
  have k := stones_eq hJ la (by omega) (by omega)
  clear hJ h2 h5 la
  unfold b_law_5
  walk_at "tw"
theorem L6 (hJ : Ok J) (h2 : 2 ≤ J.length) (h5 : J.length ≤ 5) (la : a.length = 2 * J.length) (na : ∀ n ∈ a, 0 ≤ n) : b_law_6 (Q J a b t (some (.tup (told J a))) x5 x9 x13 x14) s = .nx (Q J a b t (some (.tup (told J a))) x5 x9 x13 x14) s := by
  have k := of_eq hJ la (by omega)
  have q := all_eq hJ la na (by omega) (by omega)
  clear hJ h2 h5 la na
  unfold b_law_6
  walk_at "tw"
theorem L7 (hJ : Ok J) (h2 : 2 ≤ J.length) (h5 : J.length ≤ 5) (lb : b.length = 2 * J.length) (nb : ∀ n ∈ b, 0 ≤ n) : b_law_7 (Q J a b t x4 x5 x9 x13 x14) s = .nx (Q J a b t x4 x5 x9 x13 x14) s := by
  have k0 := stones_eq hJ lb (by omega) (by omega)
  have k := of_eq hJ lb (by omega)
  have q := all_eq hJ lb nb (by omega) (by omega)
  clear hJ h2 h5 lb nb
  unfold b_law_7
  walk_at "tw"
def mad (t : Int) : D → D
  | .tup [.int a, .int b] => .int (a * t + b)
  | d => d
theorem pair_mad (t : Int) : ∀ (ns ms : List Int), (pairUp (is ns) (is ms)).map (mad t) = is (List.zipWith (· + ·) (ns.map (· * t)) ms)
  | [], _ => rfl
  | _ :: _, [] => rfl
  | n :: ns, m :: ms => by
    show D.int (n * t + m) :: (pairUp (is ns) (is ms)).map (mad t) = _
    rw [pair_mad t ns ms]; rfl
abbrev both (a b : List Int) (t : Int) : List Int := List.zipWith (· + ·) (a.map (· * t)) b
theorem both_len (h : b.length = a.length) : (both a b t).length = a.length := by
  unfold both
  rw [List.length_zipWith, List.length_map, h, Nat.min_self]
theorem L8 (la : a.length = 2 * J.length) (lb : b.length = 2 * J.length) (h5 : J.length ≤ 5) (t0 : 0 ≤ t) (t7 : t ≤ 7) : b_law_8 (Q J a b t x4 x5 x9 x13 x14) s = .nx (Q J a b t x4 (some (.lst (is (both a b t)))) x9 x13 x14) s := by
  have c : kLc (iZ (aCons (mvar 6) (aCons (mvar 7) aNil))) (gtm 2 (gcn (gnm 16) (gcn (gnm 17) gnl))) (fun _ => mret true) (kOp addIL (kOp mulI (mvar 16) (mvar 8)) (mvar 17)) [16, 17] (Q J a b t x4 x5 x9 x13 x14) s = .ok (.lst (is (both a b t))) s := by
    have hf : iZ (aCons (mvar 6) (aCons (mvar 7) aNil)) (Q J a b t x4 x5 x9 x13 x14) = mret (pairUp (is a) (is b)) := by
      funext s
      clear la lb h5 t0 t7
      walk_at "tw"
    rw [lc_map (mad t) hf (by rw [pair_len a b (by omega)]; omega) fun d hd => by
      obtain ⟨n, m, _, _, rfl⟩ := pair_mem a b d hd
      have k : mulOk n t = true := mulOk_r (by omega)
      refine ⟨[none, some .bag, some (.lst (J.map dj)), some (.int (cn J)), x4, x5, some (.lst (is a)), some (.lst (is b)), some (.int t), x9, some (B J), some (W a), some (W b), x13, x14, none, some (.int n), some (.int m)], rfl, ?_⟩
      funext s
      show _ = mret (D.int (n * t + m)) s
      clear la lb h5 t0 t7 hf hd
      walk_at "tw", pair_mad]
    rfl
  clear la lb h5 t0 t7
  unfold b_law_8
  walk_at "tw"
theorem L9 (hJ : Ok J) (h2 : 2 ≤ J.length) (h5 : J.length ≤ 5) (la : a.length = 2 * J.length) (lb : b.length = 2 * J.length) (na : ∀ n ∈ a, 0 ≤ n) (nb : ∀ n ∈ b, 0 ≤ n) (t0 : 0 ≤ t) (t7 : t ≤ 7) : b_law_9 (Q J a b t x4 (some (.lst (is (both a b t)))) x9 x13 x14) s = .nx (Q J a b t x4 (some (.lst (is (both a b t)))) x9 x13 x14) s := by
  have fa := fitN h2 h5 la na
  have fb := fitN h2 h5 lb nb
  have fm := mul_nn t0 fa
  have lm : (a.map (· * t)).length = 2 * J.length := by rw [List.length_map]; exact la
  have fz : Nn (both a b t) := zip_nn (by omega) fm fb
  have lz : (both a b t).length = 2 * J.length := by rw [both_len (by omega)]; exact la
  have o1 := mul_eq' (t := t) fm (by omega) (by omega)
  have o2 : ownX 14 m_Weights___add__ (W (a.map (· * t))) (W b) = mret (W (both a b t)) := add_eq (a := a.map (· * t)) (b := b) (by omega) fz (by omega)
  have k0 := stones_eq hJ lz (by omega) (by omega)
  have k := of_eq hJ lz (by omega)
  have q := all_eq hJ lz fz.2 (by omega) (by omega)
  generalize both a b t = Z at *
  generalize a.map (· * t) = Y at *
  clear hJ h2 h5 la lb na nb t0 t7 fa fb fm lm fz lz
  unfold b_law_9
  walk_at "tw"
theorem L10 (hJ : Ok J) (h2 : 2 ≤ J.length) (h5 : J.length ≤ 5) (la : a.length = 2 * J.length) (lb : b.length = 2 * J.length) (na : ∀ n ∈ a, 0 ≤ n) : b_law_10 (Q J a b t (some (.tup (told J a))) x5 x9 x13 x14) s = .nx (Q J a b t (some (.tup (told J a))) x5 x9 x13 x14) s := by
  have k := of_eq hJ la (by omega)
  have q := all_eq hJ la na (by omega) (by omega)
  have i1 := list_eq a (by omega)
  have i2 := list_eq b (by omega)
  have n1 : neA (.lst (is a)) (.lst (is a)) = mret (.bl false) := by rw [neL, decide_eq_true rfl]; rfl
  have n2 : neA (.lst (is b)) (.lst (is b)) = mret (.bl false) := by rw [neL, decide_eq_true rfl]; rfl
  clear hJ h2 h5 la lb na
  unfold b_law_10
  walk_at "tw"
def shorter (J : List Jt) (a b : List Int) : List Int := if 4 < 2 * J.length then a.drop 2 else a ++ b
theorem L11 (h2 : 2 ≤ J.length) (h5 : J.length ≤ 5) (la : a.length = 2 * J.length) (lb : b.length = 2 * J.length) (na : ∀ n ∈ a, 0 ≤ n) : b_law_11 (Q J a b t x4 x5 x9 x13 x14) s = .nx (Q J a b t x4 x5 x9 (some (W (a ++ [0, 0]))) (some (.lst (is (shorter J a b))))) s := by
  have fl : Nn (a ++ [0, 0]) := by
    refine ⟨⟨?_, ?_, ?_⟩, fun n hn => ?_⟩
    · rw [List.length_append]; show 4 ≤ a.length + 2; omega
    · rw [List.length_append]; show a.length + 2 ≤ 18; omega
    · rw [List.length_append]; show (a.length + 2) % 2 = 0; omega
    · rcases List.mem_append.mp hn with h | h
      · exact na n h
      · simp only [List.mem_cons, List.not_mem_nil, or_false, or_self] at h
        omega
  have k := fun s => mkD_ap (d := .lst (is (a ++ [0, 0]))) rfl fl s
  have c1 : addIL (.lst (is a)) (.lst [.int 0, .int 0]) s = .ok (.lst (is (a ++ [0, 0]))) s := by
    rw [← is_app]
    exact y_cat (by rw [is_len]; show a.length + 2 ≤ _; omega)
  have c2 : addIL (.lst (is a)) (.lst (is b)) s = .ok (.lst (is (a ++ b))) s := by
    rw [← is_app]
    exact y_cat (by rw [is_len, is_len]; omega)
  have ct : cutD (is a) (some 2) none = is (a.drop 2) := by
    rw [show (2 : Int) = ((2 : Nat) : Int) from rfl, cut_drop (by rw [is_len]; omega), is_drop]
  unfold shorter
  by_cases z : 4 < 2 * J.length
  · rw [if_pos z]
    have z' : ((4 : Int) < 2 * (J.length : Nat)) = True := eq_true (by omega)
    generalize a ++ [0, 0] = X at *
    generalize a.drop 2 = Y at *
    clear h2 h5 la lb na fl z c2
    unfold b_law_11
    walk_at "tw"
  · rw [if_neg z]
    have z' : ((4 : Int) < 2 * (J.length : Nat)) = False := eq_false (by omega)
    generalize a ++ [0, 0] = X at *
    generalize a ++ b = Y at *
    clear h2 h5 la lb na fl z ct
    unfold b_law_11
    walk_at "tw"
theorem L12 (h2 : 2 ≤ J.length) (h5 : J.length ≤ 5) (la : a.length = 2 * J.length) (lb : b.length = 2 * J.length) (na : ∀ n ∈ a, 0 ≤ n) (nb : ∀ n ∈ b, 0 ≤ n) : b_law_12 (Q J a b t x4 x5 x9 (some (W (a ++ [0, 0]))) (some (.lst (is (shorter J a b))))) s = .nx (Q J a b t x4 x5 x9 (some (W (a ++ [0, 0]))) (some (.lst (is (shorter J a b))))) s := by
  have o1 := other_eq (J := J) (ns := a ++ [0, 0]) (by rw [List.length_append]; show a.length + 2 ≠ _; omega) (by rw [List.length_append]; show a.length + 2 ≤ _; omega)
  have fs : Nn (shorter J a b) ∧ (shorter J a b).length ≠ 2 * J.length := by
    unfold shorter
    split
    · refine ⟨⟨⟨?_, ?_, ?_⟩, fun n hn => na n (List.mem_of_mem_drop hn)⟩, ?_⟩ <;> rw [List.length_drop] <;> omega
    · refine ⟨⟨⟨?_, ?_, ?_⟩, fun n hn => ?_⟩, ?_⟩
      · rw [List.length_append]; omega
      · rw [List.length_append]; omega
      · rw [List.length_append]; omega
      · rcases List.mem_append.mp hn with h | h
        · exact na n h
        · exact nb n h
      · rw [List.length_append]; omega
  have k := fun s => mkD_ap (d := .lst (is (shorter J a b))) rfl fs.1 s
  have o2 := other_eq (J := J) (ns := shorter J a b) fs.2 (by have := fs.1.1.2.1; omega)
  generalize shorter J a b = X at *
  generalize a ++ [0, 0] = Y at *
  clear h2 h5 la lb na nb fs
  unfold b_law_12
  walk_at "tw"
theorem L13 (hJ : Ok J) (h2 : 2 ≤ J.length) (h5 : J.length ≤ 5) (la : a.length = 2 * J.length) (na : ∀ n ∈ a, 0 ≤ n) : b_law_13 (Q J a b t x4 x5 x9 x13 x14) s = .ret (.bl true) s := by
  have fa := fitN h2 h5 la na
  have hz : a.map (· * (0 : Int)) = List.replicate (2 * J.length) 0 := by
    rw [← la]
    have : ∀ l : List Int, l.map (· * (0 : Int)) = List.replicate l.length 0 := fun l => by
      induction l with
      | nil => rfl
      | cons x l ih => rw [List.map_cons, ih, Int.mul_zero]; rfl
    exact this a
  have o1 := mul_eq' (t := 0) (mul_nn (by decide) fa) (by decide) (by omega)
  rw [hz] at o1
  have lz : (List.replicate (2 * J.length) (0 : Int)).length = 2 * J.length := List.length_replicate
  have nz : ∀ n ∈ List.replicate (2 * J.length) (0 : Int), 0 ≤ n := fun n hn => by rw [(List.mem_replicate.mp hn).2]; decide
  have fz := fitN h2 h5 lz nz
  have r : repL' (.lst [.int 0]) (.int (2 * (J.length : Nat))) = mret (.lst (is (List.replicate (2 * J.length) 0))) := by
    rw [rep_eq (by omega) (by omega) (by decide), rep_ones, show (2 * ((J.length : Nat) : Int)).toNat = 2 * J.length by omega]
  have k1 := fun s => mkD_ap (d := .lst (is (List.replicate (2 * J.length) 0))) rfl fz s
  have k0 := stones_eq hJ lz (by omega) (by omega)
  have k := of_eq hJ lz (by omega)
  have q := all_eq hJ lz nz (by omega) (by omega)
  generalize List.replicate (2 * J.length) (0 : Int) = Z at *
  clear hJ h2 h5 la na fa hz lz nz fz
  unfold b_law_13
  walk_at "tw"
end
theorem good (s : Pen) : ∃ s', b_law ρ0 s = .ret (.bl true) s' := by
  obtain ⟨J, s1, e0, hJ, h2, h5⟩ := L0 s
  obtain ⟨a0, b, t, s2, e2, la0, lb, na0, nb, t0, t7⟩ := L2 s1 h5
  obtain ⟨a, y9, s3, e3, la, na⟩ := L3 (b := b) (t := t) s2 h2 h5 la0 na0
  have ha := fitN h2 h5 la na
  have hb := fitN h2 h5 lb nb
  refine ⟨s3, ?_⟩
  unfold b_law
  refine sseq_nx' e0 (sseq_nx' L1 (sseq_nx' e2 (sseq_nx' e3 (sseq_nx' (L4 hJ h2 h5 ha hb) (sseq_nx' (L5 hJ h2 h5 la) (sseq_nx' (L6 hJ h2 h5 la na) (sseq_nx' (L7 hJ h2 h5 lb nb) ?_)))))))
  exact sseq_nx' (L8 la lb h5 t0 t7) (sseq_nx' (L9 hJ h2 h5 la lb na nb t0 t7) (sseq_nx' (L10 hJ h2 h5 la lb na) (sseq_nx' (L11 h2 h5 la lb na) (sseq_nx' (L12 h2 h5 la lb na nb) (L13 hJ h2 h5 la na)))))
end K13

set_option Elab.async false
set_option linter.all false
set_option maxRecDepth 100000
set_option maxHeartbeats 4000000
set_option autoImplicit false
namespace K13
open PySem L2 PySem.Spec PyProof.Rows Tw
theorem all_mk {l : PySem.W.OpenLaw} {w : World} {K : PySem.W.Frag} {h : Heap} {mg : Str → Option Value} {fa : Addr} (X : K.In h) (G : h.Ns mainGlobals mg) (hfa : mg "law" = some (.ref fa))
    {f__law_take : Addr}
    {od__law_take an__law_take : Option Addr}
    {sl__law_take : Array (Option Value)}
    {oc__law_take kV__law_take dc__law_take pm__law_take cd__law_take ct__law_take : Value}
    {f__law_of : Addr}
    {od__law_of an__law_of : Option Addr}
    {sl__law_of : Array (Option Value)}
    {oc__law_of kV__law_of dc__law_of pm__law_of cd__law_of ct__law_of : Value}
    {f__law_bag : Addr}
    {od__law_bag an__law_bag : Option Addr}
    {sl__law_bag : Array (Option Value)}
    {oc__law_bag kV__law_bag dc__law_bag pm__law_bag cd__law_bag ct__law_bag : Value}
    {f__law_joint : Addr}
    {od__law_joint an__law_joint : Option Addr}
    {sl__law_joint : Array (Option Value)}
    {oc__law_joint kV__law_joint dc__law_joint pm__law_joint cd__law_joint ct__law_joint : Value}
    {f__law_joints : Addr}
    {od__law_joints an__law_joints : Option Addr}
    {sl__law_joints : Array (Option Value)}
    {oc__law_joints kV__law_joints dc__law_joints pm__law_joints cd__law_joints ct__law_joints : Value}
    {f__law_numbers : Addr}
    {od__law_numbers an__law_numbers : Option Addr}
    {sl__law_numbers : Array (Option Value)}
    {oc__law_numbers kV__law_numbers dc__law_numbers pm__law_numbers cd__law_numbers ct__law_numbers : Value}
    {f_is_row : Addr}
    {od_is_row an_is_row : Option Addr}
    {sl_is_row : Array (Option Value)}
    {oc_is_row kV_is_row dc_is_row pm_is_row cd_is_row ct_is_row : Value}
    {f_is_number : Addr}
    {od_is_number an_is_number : Option Addr}
    {sl_is_number : Array (Option Value)}
    {oc_is_number kV_is_number dc_is_number pm_is_number cd_is_number ct_is_number : Value}
    {f_is_count : Addr}
    {od_is_count an_is_count : Option Addr}
    {sl_is_count : Array (Option Value)}
    {oc_is_count kV_is_count dc_is_count pm_is_count cd_is_count ct_is_count : Value}
    {f_Weights___init__ : Addr}
    {od_Weights___init__ an_Weights___init__ : Option Addr}
    {sl_Weights___init__ : Array (Option Value)}
    {oc_Weights___init__ kV_Weights___init__ dc_Weights___init__ pm_Weights___init__ cd_Weights___init__ ct_Weights___init__ : Value}
    {f_is_whole : Addr}
    {od_is_whole an_is_whole : Option Addr}
    {sl_is_whole : Array (Option Value)}
    {oc_is_whole kV_is_whole dc_is_whole pm_is_whole cd_is_whole ct_is_whole : Value}
    {f_is_point : Addr}
    {od_is_point an_is_point : Option Addr}
    {sl_is_point : Array (Option Value)}
    {oc_is_point kV_is_point dc_is_point pm_is_point cd_is_point ct_is_point : Value}
    {f__checked_joint : Addr}
    {od__checked_joint an__checked_joint : Option Addr}
    {sl__checked_joint : Array (Option Value)}
    {oc__checked_joint kV__checked_joint dc__checked_joint pm__checked_joint cd__checked_joint ct__checked_joint : Value}
    {f__checked_joints : Addr}
    {od__checked_joints an__checked_joints : Option Addr}
    {sl__checked_joints : Array (Option Value)}
    {oc__checked_joints kV__checked_joints dc__checked_joints pm__checked_joints cd__checked_joints ct__checked_joints : Value}
    {f__check_stones : Addr}
    {od__check_stones an__check_stones : Option Addr}
    {sl__check_stones : Array (Option Value)}
    {oc__check_stones kV__check_stones dc__check_stones pm__check_stones cd__check_stones ct__check_stones : Value}
    {f_Load___init__ : Addr}
    {od_Load___init__ an_Load___init__ : Option Addr}
    {sl_Load___init__ : Array (Option Value)}
    {oc_Load___init__ kV_Load___init__ dc_Load___init__ pm_Load___init__ cd_Load___init__ ct_Load___init__ : Value}
    {f_Force___init__ : Addr}
    {od_Force___init__ an_Force___init__ : Option Addr}
    {sl_Force___init__ : Array (Option Value)}
    {oc_Force___init__ kV_Force___init__ dc_Force___init__ pm_Force___init__ cd_Force___init__ ct_Force___init__ : Value}
    {f_Force_none : Addr}
    {od_Force_none an_Force_none : Option Addr}
    {sl_Force_none : Array (Option Value)}
    {oc_Force_none kV_Force_none dc_Force_none pm_Force_none cd_Force_none ct_Force_none : Value}
    {f_Load_none : Addr}
    {od_Load_none an_Load_none : Option Addr}
    {sl_Load_none : Array (Option Value)}
    {oc_Load_none kV_Load_none dc_Load_none pm_Load_none cd_Load_none ct_Load_none : Value}
    {f_Load___len__ : Addr}
    {od_Load___len__ an_Load___len__ : Option Addr}
    {sl_Load___len__ : Array (Option Value)}
    {oc_Load___len__ kV_Load___len__ dc_Load___len__ pm_Load___len__ cd_Load___len__ ct_Load___len__ : Value}
    {f__checked_own : Addr}
    {od__checked_own an__checked_own : Option Addr}
    {sl__checked_own : Array (Option Value)}
    {oc__checked_own kV__checked_own dc__checked_own pm__checked_own cd__checked_own ct__checked_own : Value}
    {f_Bridge___init__ : Addr}
    {od_Bridge___init__ an_Bridge___init__ : Option Addr}
    {sl_Bridge___init__ : Array (Option Value)}
    {oc_Bridge___init__ kV_Bridge___init__ dc_Bridge___init__ pm_Bridge___init__ cd_Bridge___init__ ct_Bridge___init__ : Value}
    {T_Bridge___init__ : Addr}
    {toc_Bridge___init__ : Value}
    {tod_Bridge___init__ : Option Addr}
    {tsl_Bridge___init__ : Array (Option Value)}
    {tn_Bridge___init__ : Nat}
    {f_Weights___len__ : Addr}
    {od_Weights___len__ an_Weights___len__ : Option Addr}
    {sl_Weights___len__ : Array (Option Value)}
    {oc_Weights___len__ kV_Weights___len__ dc_Weights___len__ pm_Weights___len__ cd_Weights___len__ ct_Weights___len__ : Value}
    {f_check_weights : Addr}
    {od_check_weights an_check_weights : Option Addr}
    {sl_check_weights : Array (Option Value)}
    {oc_check_weights kV_check_weights dc_check_weights pm_check_weights cd_check_weights ct_check_weights : Value}
    {f_Motion___init__ : Addr}
    {od_Motion___init__ an_Motion___init__ : Option Addr}
    {sl_Motion___init__ : Array (Option Value)}
    {oc_Motion___init__ kV_Motion___init__ dc_Motion___init__ pm_Motion___init__ cd_Motion___init__ ct_Motion___init__ : Value}
    {f_Motion_none : Addr}
    {od_Motion_none an_Motion_none : Option Addr}
    {sl_Motion_none : Array (Option Value)}
    {oc_Motion_none kV_Motion_none dc_Motion_none pm_Motion_none cd_Motion_none ct_Motion_none : Value}
    {f_Motion_turning : Addr}
    {od_Motion_turning an_Motion_turning : Option Addr}
    {sl_Motion_turning : Array (Option Value)}
    {oc_Motion_turning kV_Motion_turning dc_Motion_turning pm_Motion_turning cd_Motion_turning ct_Motion_turning : Value}
    {T_Motion_turning : Addr}
    {toc_Motion_turning : Value}
    {tod_Motion_turning : Option Addr}
    {tsl_Motion_turning : Array (Option Value)}
    {tn_Motion_turning : Nat}
    {ttk0_Motion_turning : Tok}
    {f_side_of : Addr}
    {od_side_of an_side_of : Option Addr}
    {sl_side_of : Array (Option Value)}
    {oc_side_of kV_side_of dc_side_of pm_side_of cd_side_of ct_side_of : Value}
    {f_Weights___getitem__ : Addr}
    {od_Weights___getitem__ an_Weights___getitem__ : Option Addr}
    {sl_Weights___getitem__ : Array (Option Value)}
    {oc_Weights___getitem__ kV_Weights___getitem__ dc_Weights___getitem__ pm_Weights___getitem__ cd_Weights___getitem__ ct_Weights___getitem__ : Value}
    {f_Bridge_point : Addr}
    {od_Bridge_point an_Bridge_point : Option Addr}
    {sl_Bridge_point : Array (Option Value)}
    {oc_Bridge_point kV_Bridge_point dc_Bridge_point pm_Bridge_point cd_Bridge_point ct_Bridge_point : Value}
    {f_Motion___add__ : Addr}
    {od_Motion___add__ an_Motion___add__ : Option Addr}
    {sl_Motion___add__ : Array (Option Value)}
    {oc_Motion___add__ kV_Motion___add__ dc_Motion___add__ pm_Motion___add__ cd_Motion___add__ ct_Motion___add__ : Value}
    {f__motion_behind : Addr}
    {od__motion_behind an__motion_behind : Option Addr}
    {sl__motion_behind : Array (Option Value)}
    {oc__motion_behind kV__motion_behind dc__motion_behind pm__motion_behind cd__motion_behind ct__motion_behind : Value}
    {f_stone_motions : Addr}
    {od_stone_motions an_stone_motions : Option Addr}
    {sl_stone_motions : Array (Option Value)}
    {oc_stone_motions kV_stone_motions dc_stone_motions pm_stone_motions cd_stone_motions ct_stone_motions : Value}
    {f_motion_of : Addr}
    {od_motion_of an_motion_of : Option Addr}
    {sl_motion_of : Array (Option Value)}
    {oc_motion_of kV_motion_of dc_motion_of pm_motion_of cd_motion_of ct_motion_of : Value}
    {f__law_plain : Addr}
    {od__law_plain an__law_plain : Option Addr}
    {sl__law_plain : Array (Option Value)}
    {oc__law_plain kV__law_plain dc__law_plain pm__law_plain cd__law_plain ct__law_plain : Value}
    {f__law_corner : Addr}
    {od__law_corner an__law_corner : Option Addr}
    {sl__law_corner : Array (Option Value)}
    {oc__law_corner kV__law_corner dc__law_corner pm__law_corner cd__law_corner ct__law_corner : Value}
    {f__law_motion : Addr}
    {od__law_motion an__law_motion : Option Addr}
    {sl__law_motion : Array (Option Value)}
    {oc__law_motion kV__law_motion dc__law_motion pm__law_motion cd__law_motion ct__law_motion : Value}
    {f__law_at : Addr}
    {od__law_at an__law_at : Option Addr}
    {sl__law_at : Array (Option Value)}
    {oc__law_at kV__law_at dc__law_at pm__law_at cd__law_at ct__law_at : Value}
    {f__law_joint_opens : Addr}
    {od__law_joint_opens an__law_joint_opens : Option Addr}
    {sl__law_joint_opens : Array (Option Value)}
    {oc__law_joint_opens kV__law_joint_opens dc__law_joint_opens pm__law_joint_opens cd__law_joint_opens ct__law_joint_opens : Value}
    {f__law_all : Addr}
    {od__law_all an__law_all : Option Addr}
    {sl__law_all : Array (Option Value)}
    {oc__law_all kV__law_all dc__law_all pm__law_all cd__law_all ct__law_all : Value}
    {f_Weights___mul__ : Addr}
    {od_Weights___mul__ an_Weights___mul__ : Option Addr}
    {sl_Weights___mul__ : Array (Option Value)}
    {oc_Weights___mul__ kV_Weights___mul__ dc_Weights___mul__ pm_Weights___mul__ cd_Weights___mul__ ct_Weights___mul__ : Value}
    {f_Weights___add__ : Addr}
    {od_Weights___add__ an_Weights___add__ : Option Addr}
    {sl_Weights___add__ : Array (Option Value)}
    {oc_Weights___add__ kV_Weights___add__ dc_Weights___add__ pm_Weights___add__ cd_Weights___add__ ct_Weights___add__ : Value}
    {f_Weights___iter__ : Addr}
    {od_Weights___iter__ an_Weights___iter__ : Option Addr}
    {sl_Weights___iter__ : Array (Option Value)}
    {oc_Weights___iter__ kV_Weights___iter__ dc_Weights___iter__ pm_Weights___iter__ cd_Weights___iter__ ct_Weights___iter__ : Value}
    {f__law_other_size : Addr}
    {od__law_other_size an__law_other_size : Option Addr}
    {sl__law_other_size : Array (Option Value)}
    {oc__law_other_size kV__law_other_size dc__law_other_size pm__law_other_size cd__law_other_size ct__law_other_size : Value}
    {f_law : Addr}
    {od_law an_law : Option Addr}
    {sl_law : Array (Option Value)}
    {oc_law kV_law dc_law pm_law cd_law ct_law : Value}
    {C_BridgeError : Addr}
    {C_BadForce : Addr}
    {C_BadLoad : Addr}
    {C_OtherSize : Addr}
    {C_NoStone : Addr}
    {C_NoCorner : Addr}
    {C_BadBridge : Addr}
    {C_NoPart : Addr}
    {C_BadMotion : Addr}
    {C_BadWeights : Addr}
    {C_Force : Addr}
    {C_Load : Addr}
    {C_Bridge : Addr}
    {C_Motion : Addr}
    {C_Weights : Addr}
    {fo_Weights___mul__ ro_Weights___mul__ : Option Value}
    {P_Force_none : Addr}
    {re_Force_none : List Value}
    {P_Load_none : Addr}
    {re_Load_none : List Value}
    {P_Motion_none : Addr}
    {re_Motion_none : List Value}
    {P_Motion_turning : Addr}
    {re_Motion_turning : List Value}
    {I_BadForce : Addr}
    {odi_BadForce ani_BadForce : Option Addr}
    {sli_BadForce : Array (Option Value)}
    {oci_BadForce kVi_BadForce dci_BadForce pmi_BadForce cdi_BadForce cti_BadForce : Value}
    {nm_BadForce qn_BadForce : Str} {N_BadForce : Addr} {bs_BadForce bm_BadForce : List Value} {sn_BadForce : List Str} {sub_BadForce : List Value} {ab_BadForce : Bool} {col_BadForce : Option Bool} {dd_BadForce : Option Addr} {k0_BadForce k1_BadForce k2_BadForce k3_BadForce k5_BadForce : Option Value}
    {I_BadLoad : Addr}
    {odi_BadLoad ani_BadLoad : Option Addr}
    {sli_BadLoad : Array (Option Value)}
    {oci_BadLoad kVi_BadLoad dci_BadLoad pmi_BadLoad cdi_BadLoad cti_BadLoad : Value}
    {nm_BadLoad qn_BadLoad : Str} {N_BadLoad : Addr} {bs_BadLoad bm_BadLoad : List Value} {sn_BadLoad : List Str} {sub_BadLoad : List Value} {ab_BadLoad : Bool} {col_BadLoad : Option Bool} {dd_BadLoad : Option Addr} {k0_BadLoad k1_BadLoad k2_BadLoad k3_BadLoad k5_BadLoad : Option Value}
    {I_OtherSize : Addr}
    {odi_OtherSize ani_OtherSize : Option Addr}
    {sli_OtherSize : Array (Option Value)}
    {oci_OtherSize kVi_OtherSize dci_OtherSize pmi_OtherSize cdi_OtherSize cti_OtherSize : Value}
    {nm_OtherSize qn_OtherSize : Str} {N_OtherSize : Addr} {bs_OtherSize bm_OtherSize : List Value} {sn_OtherSize : List Str} {sub_OtherSize : List Value} {ab_OtherSize : Bool} {col_OtherSize : Option Bool} {dd_OtherSize : Option Addr} {k0_OtherSize k1_OtherSize k2_OtherSize k3_OtherSize k5_OtherSize : Option Value}
    {I_NoCorner : Addr}
    {odi_NoCorner ani_NoCorner : Option Addr}
    {sli_NoCorner : Array (Option Value)}
    {oci_NoCorner kVi_NoCorner dci_NoCorner pmi_NoCorner cdi_NoCorner cti_NoCorner : Value}
    {nm_NoCorner qn_NoCorner : Str} {N_NoCorner : Addr} {bs_NoCorner bm_NoCorner : List Value} {sn_NoCorner : List Str} {sub_NoCorner : List Value} {ab_NoCorner : Bool} {col_NoCorner : Option Bool} {dd_NoCorner : Option Addr} {k0_NoCorner k1_NoCorner k2_NoCorner k3_NoCorner k5_NoCorner : Option Value}
    {I_BadBridge : Addr}
    {odi_BadBridge ani_BadBridge : Option Addr}
    {sli_BadBridge : Array (Option Value)}
    {oci_BadBridge kVi_BadBridge dci_BadBridge pmi_BadBridge cdi_BadBridge cti_BadBridge : Value}
    {nm_BadBridge qn_BadBridge : Str} {N_BadBridge : Addr} {bs_BadBridge bm_BadBridge : List Value} {sn_BadBridge : List Str} {sub_BadBridge : List Value} {ab_BadBridge : Bool} {col_BadBridge : Option Bool} {dd_BadBridge : Option Addr} {k0_BadBridge k1_BadBridge k2_BadBridge k3_BadBridge k5_BadBridge : Option Value}
    {I_BadMotion : Addr}
    {odi_BadMotion ani_BadMotion : Option Addr}
    {sli_BadMotion : Array (Option Value)}
    {oci_BadMotion kVi_BadMotion dci_BadMotion pmi_BadMotion cdi_BadMotion cti_BadMotion : Value}
    {nm_BadMotion qn_BadMotion : Str} {N_BadMotion : Addr} {bs_BadMotion bm_BadMotion : List Value} {sn_BadMotion : List Str} {sub_BadMotion : List Value} {ab_BadMotion : Bool} {col_BadMotion : Option Bool} {dd_BadMotion : Option Addr} {k0_BadMotion k1_BadMotion k2_BadMotion k3_BadMotion k5_BadMotion : Option Value}
    {I_BadWeights : Addr}
    {odi_BadWeights ani_BadWeights : Option Addr}
    {sli_BadWeights : Array (Option Value)}
    {oci_BadWeights kVi_BadWeights dci_BadWeights pmi_BadWeights cdi_BadWeights cti_BadWeights : Value}
    {nm_BadWeights qn_BadWeights : Str} {N_BadWeights : Addr} {bs_BadWeights bm_BadWeights : List Value} {sn_BadWeights : List Str} {sub_BadWeights : List Value} {ab_BadWeights : Bool} {col_BadWeights : Option Bool} {dd_BadWeights : Option Addr} {k0_BadWeights k1_BadWeights k2_BadWeights k3_BadWeights k5_BadWeights : Option Value}
    {tk_MOST_CORNERS : Tok}
    {tk_LEAST_CORNERS : Tok}
    {tk_MOST_STONES : Tok}
    {tk_FARTHEST : Tok}
    (a__law_take : PySem.W.nsIn K mainGlobals "_law_take" = some (some (.ref f__law_take)))
    (l__law_take : K.lookup f__law_take = some ⟨oc__law_take, od__law_take, .func (PySem.W.fnOf "_law_take" "_law_take" (defArgs s__law_take) (defBody s__law_take) (defScope s__law_take) .none kV__law_take dc__law_take pm__law_take an__law_take cd__law_take ct__law_take), sl__law_take⟩)
    (c__law_take : PySem.W.codeIn K cd__law_take "_law_take" = true)
    (k__law_take : PySem.W.keepIn K (.ref f__law_take) = true)
    (a__law_of : PySem.W.nsIn K mainGlobals "_law_of" = some (some (.ref f__law_of)))
    (l__law_of : K.lookup f__law_of = some ⟨oc__law_of, od__law_of, .func (PySem.W.fnOf "_law_of" "_law_of" (defArgs s__law_of) (defBody s__law_of) (defScope s__law_of) .none kV__law_of dc__law_of pm__law_of an__law_of cd__law_of ct__law_of), sl__law_of⟩)
    (c__law_of : PySem.W.codeIn K cd__law_of "_law_of" = true)
    (k__law_of : PySem.W.keepIn K (.ref f__law_of) = true)
    (a__law_bag : PySem.W.nsIn K mainGlobals "_law_bag" = some (some (.ref f__law_bag)))
    (l__law_bag : K.lookup f__law_bag = some ⟨oc__law_bag, od__law_bag, .func (PySem.W.fnOf "_law_bag" "_law_bag" (defArgs s__law_bag) (defBody s__law_bag) (defScope s__law_bag) .none kV__law_bag dc__law_bag pm__law_bag an__law_bag cd__law_bag ct__law_bag), sl__law_bag⟩)
    (c__law_bag : PySem.W.codeIn K cd__law_bag "_law_bag" = true)
    (k__law_bag : PySem.W.keepIn K (.ref f__law_bag) = true)
    (a__law_joint : PySem.W.nsIn K mainGlobals "_law_joint" = some (some (.ref f__law_joint)))
    (l__law_joint : K.lookup f__law_joint = some ⟨oc__law_joint, od__law_joint, .func (PySem.W.fnOf "_law_joint" "_law_joint" (defArgs s__law_joint) (defBody s__law_joint) (defScope s__law_joint) .none kV__law_joint dc__law_joint pm__law_joint an__law_joint cd__law_joint ct__law_joint), sl__law_joint⟩)
    (c__law_joint : PySem.W.codeIn K cd__law_joint "_law_joint" = true)
    (k__law_joint : PySem.W.keepIn K (.ref f__law_joint) = true)
    (a__law_joints : PySem.W.nsIn K mainGlobals "_law_joints" = some (some (.ref f__law_joints)))
    (l__law_joints : K.lookup f__law_joints = some ⟨oc__law_joints, od__law_joints, .func (PySem.W.fnOf "_law_joints" "_law_joints" (defArgs s__law_joints) (defBody s__law_joints) (defScope s__law_joints) .none kV__law_joints dc__law_joints pm__law_joints an__law_joints cd__law_joints ct__law_joints), sl__law_joints⟩)
    (c__law_joints : PySem.W.codeIn K cd__law_joints "_law_joints" = true)
    (k__law_joints : PySem.W.keepIn K (.ref f__law_joints) = true)
    (a__law_numbers : PySem.W.nsIn K mainGlobals "_law_numbers" = some (some (.ref f__law_numbers)))
    (l__law_numbers : K.lookup f__law_numbers = some ⟨oc__law_numbers, od__law_numbers, .func (PySem.W.fnOf "_law_numbers" "_law_numbers" (defArgs s__law_numbers) (defBody s__law_numbers) (defScope s__law_numbers) .none kV__law_numbers dc__law_numbers pm__law_numbers an__law_numbers cd__law_numbers ct__law_numbers), sl__law_numbers⟩)
    (c__law_numbers : PySem.W.codeIn K cd__law_numbers "_law_numbers" = true)
    (k__law_numbers : PySem.W.keepIn K (.ref f__law_numbers) = true)
    (a_is_row : PySem.W.nsIn K mainGlobals "is_row" = some (some (.ref f_is_row)))
    (l_is_row : K.lookup f_is_row = some ⟨oc_is_row, od_is_row, .func (PySem.W.fnOf "is_row" "is_row" (defArgs s_is_row) (defBody s_is_row) (defScope s_is_row) .none kV_is_row dc_is_row pm_is_row an_is_row cd_is_row ct_is_row), sl_is_row⟩)
    (c_is_row : PySem.W.codeIn K cd_is_row "is_row" = true)
    (k_is_row : PySem.W.keepIn K (.ref f_is_row) = true)
    (a_is_number : PySem.W.nsIn K mainGlobals "is_number" = some (some (.ref f_is_number)))
    (l_is_number : K.lookup f_is_number = some ⟨oc_is_number, od_is_number, .func (PySem.W.fnOf "is_number" "is_number" (defArgs s_is_number) (defBody s_is_number) (defScope s_is_number) .none kV_is_number dc_is_number pm_is_number an_is_number cd_is_number ct_is_number), sl_is_number⟩)
    (c_is_number : PySem.W.codeIn K cd_is_number "is_number" = true)
    (k_is_number : PySem.W.keepIn K (.ref f_is_number) = true)
    (a_is_count : PySem.W.nsIn K mainGlobals "is_count" = some (some (.ref f_is_count)))
    (l_is_count : K.lookup f_is_count = some ⟨oc_is_count, od_is_count, .func (PySem.W.fnOf "is_count" "is_count" (defArgs s_is_count) (defBody s_is_count) (defScope s_is_count) .none kV_is_count dc_is_count pm_is_count an_is_count cd_is_count ct_is_count), sl_is_count⟩)
    (c_is_count : PySem.W.codeIn K cd_is_count "is_count" = true)
    (k_is_count : PySem.W.keepIn K (.ref f_is_count) = true)
    (l_Weights___init__ : K.lookup f_Weights___init__ = some ⟨oc_Weights___init__, od_Weights___init__, .func (PySem.W.fnOf "__init__" "Weights.__init__" (defArgs s_Weights___init__) (defBody s_Weights___init__) (defScope s_Weights___init__) .none kV_Weights___init__ dc_Weights___init__ pm_Weights___init__ an_Weights___init__ cd_Weights___init__ ct_Weights___init__), sl_Weights___init__⟩)
    (c_Weights___init__ : PySem.W.codeIn K cd_Weights___init__ "Weights.__init__" = true)
    (k_Weights___init__ : PySem.W.keepIn K (.ref f_Weights___init__) = true)
    (a_is_whole : PySem.W.nsIn K mainGlobals "is_whole" = some (some (.ref f_is_whole)))
    (l_is_whole : K.lookup f_is_whole = some ⟨oc_is_whole, od_is_whole, .func (PySem.W.fnOf "is_whole" "is_whole" (defArgs s_is_whole) (defBody s_is_whole) (defScope s_is_whole) .none kV_is_whole dc_is_whole pm_is_whole an_is_whole cd_is_whole ct_is_whole), sl_is_whole⟩)
    (c_is_whole : PySem.W.codeIn K cd_is_whole "is_whole" = true)
    (k_is_whole : PySem.W.keepIn K (.ref f_is_whole) = true)
    (a_is_point : PySem.W.nsIn K mainGlobals "is_point" = some (some (.ref f_is_point)))
    (l_is_point : K.lookup f_is_point = some ⟨oc_is_point, od_is_point, .func (PySem.W.fnOf "is_point" "is_point" (defArgs s_is_point) (defBody s_is_point) (defScope s_is_point) .none kV_is_point dc_is_point pm_is_point an_is_point cd_is_point ct_is_point), sl_is_point⟩)
    (c_is_point : PySem.W.codeIn K cd_is_point "is_point" = true)
    (k_is_point : PySem.W.keepIn K (.ref f_is_point) = true)
    (a__checked_joint : PySem.W.nsIn K mainGlobals "_checked_joint" = some (some (.ref f__checked_joint)))
    (l__checked_joint : K.lookup f__checked_joint = some ⟨oc__checked_joint, od__checked_joint, .func (PySem.W.fnOf "_checked_joint" "_checked_joint" (defArgs s__checked_joint) (defBody s__checked_joint) (defScope s__checked_joint) .none kV__checked_joint dc__checked_joint pm__checked_joint an__checked_joint cd__checked_joint ct__checked_joint), sl__checked_joint⟩)
    (c__checked_joint : PySem.W.codeIn K cd__checked_joint "_checked_joint" = true)
    (k__checked_joint : PySem.W.keepIn K (.ref f__checked_joint) = true)
    (a__checked_joints : PySem.W.nsIn K mainGlobals "_checked_joints" = some (some (.ref f__checked_joints)))
    (l__checked_joints : K.lookup f__checked_joints = some ⟨oc__checked_joints, od__checked_joints, .func (PySem.W.fnOf "_checked_joints" "_checked_joints" (defArgs s__checked_joints) (defBody s__checked_joints) (defScope s__checked_joints) .none kV__checked_joints dc__checked_joints pm__checked_joints an__checked_joints cd__checked_joints ct__checked_joints), sl__checked_joints⟩)
    (c__checked_joints : PySem.W.codeIn K cd__checked_joints "_checked_joints" = true)
    (k__checked_joints : PySem.W.keepIn K (.ref f__checked_joints) = true)
    (a__check_stones : PySem.W.nsIn K mainGlobals "_check_stones" = some (some (.ref f__check_stones)))
    (l__check_stones : K.lookup f__check_stones = some ⟨oc__check_stones, od__check_stones, .func (PySem.W.fnOf "_check_stones" "_check_stones" (defArgs s__check_stones) (defBody s__check_stones) (defScope s__check_stones) .none kV__check_stones dc__check_stones pm__check_stones an__check_stones cd__check_stones ct__check_stones), sl__check_stones⟩)
    (c__check_stones : PySem.W.codeIn K cd__check_stones "_check_stones" = true)
    (k__check_stones : PySem.W.keepIn K (.ref f__check_stones) = true)
    (l_Load___init__ : K.lookup f_Load___init__ = some ⟨oc_Load___init__, od_Load___init__, .func (PySem.W.fnOf "__init__" "Load.__init__" (defArgs s_Load___init__) (defBody s_Load___init__) (defScope s_Load___init__) .none kV_Load___init__ dc_Load___init__ pm_Load___init__ an_Load___init__ cd_Load___init__ ct_Load___init__), sl_Load___init__⟩)
    (c_Load___init__ : PySem.W.codeIn K cd_Load___init__ "Load.__init__" = true)
    (k_Load___init__ : PySem.W.keepIn K (.ref f_Load___init__) = true)
    (l_Force___init__ : K.lookup f_Force___init__ = some ⟨oc_Force___init__, od_Force___init__, .func (PySem.W.fnOf "__init__" "Force.__init__" (defArgs s_Force___init__) (defBody s_Force___init__) (defScope s_Force___init__) .none kV_Force___init__ dc_Force___init__ pm_Force___init__ an_Force___init__ cd_Force___init__ ct_Force___init__), sl_Force___init__⟩)
    (c_Force___init__ : PySem.W.codeIn K cd_Force___init__ "Force.__init__" = true)
    (k_Force___init__ : PySem.W.keepIn K (.ref f_Force___init__) = true)
    (l_Force_none : K.lookup f_Force_none = some ⟨oc_Force_none, od_Force_none, .func (PySem.W.fnOf "none" "Force.none" (defArgs s_Force_none) (defBody s_Force_none) (defScope s_Force_none) .none kV_Force_none dc_Force_none pm_Force_none an_Force_none cd_Force_none ct_Force_none), sl_Force_none⟩)
    (c_Force_none : PySem.W.codeIn K cd_Force_none "Force.none" = true)
    (k_Force_none : PySem.W.keepIn K (.ref f_Force_none) = true)
    (l_Load_none : K.lookup f_Load_none = some ⟨oc_Load_none, od_Load_none, .func (PySem.W.fnOf "none" "Load.none" (defArgs s_Load_none) (defBody s_Load_none) (defScope s_Load_none) .none kV_Load_none dc_Load_none pm_Load_none an_Load_none cd_Load_none ct_Load_none), sl_Load_none⟩)
    (c_Load_none : PySem.W.codeIn K cd_Load_none "Load.none" = true)
    (k_Load_none : PySem.W.keepIn K (.ref f_Load_none) = true)
    (l_Load___len__ : K.lookup f_Load___len__ = some ⟨oc_Load___len__, od_Load___len__, .func (PySem.W.fnOf "__len__" "Load.__len__" (defArgs s_Load___len__) (defBody s_Load___len__) (defScope s_Load___len__) .none kV_Load___len__ dc_Load___len__ pm_Load___len__ an_Load___len__ cd_Load___len__ ct_Load___len__), sl_Load___len__⟩)
    (c_Load___len__ : PySem.W.codeIn K cd_Load___len__ "Load.__len__" = true)
    (k_Load___len__ : PySem.W.keepIn K (.ref f_Load___len__) = true)
    (a__checked_own : PySem.W.nsIn K mainGlobals "_checked_own" = some (some (.ref f__checked_own)))
    (l__checked_own : K.lookup f__checked_own = some ⟨oc__checked_own, od__checked_own, .func (PySem.W.fnOf "_checked_own" "_checked_own" (defArgs s__checked_own) (defBody s__checked_own) (defScope s__checked_own) .none kV__checked_own dc__checked_own pm__checked_own an__checked_own cd__checked_own ct__checked_own), sl__checked_own⟩)
    (c__checked_own : PySem.W.codeIn K cd__checked_own "_checked_own" = true)
    (k__checked_own : PySem.W.keepIn K (.ref f__checked_own) = true)
    (l_Bridge___init__ : K.lookup f_Bridge___init__ = some ⟨oc_Bridge___init__, od_Bridge___init__, .func (PySem.W.fnOf "__init__" "Bridge.__init__" (defArgs s_Bridge___init__) (defBody s_Bridge___init__) (defScope s_Bridge___init__) (.ref T_Bridge___init__) kV_Bridge___init__ dc_Bridge___init__ pm_Bridge___init__ an_Bridge___init__ cd_Bridge___init__ ct_Bridge___init__), sl_Bridge___init__⟩)
    (c_Bridge___init__ : PySem.W.codeIn K cd_Bridge___init__ "Bridge.__init__" = true)
    (k_Bridge___init__ : PySem.W.keepIn K (.ref f_Bridge___init__) = true)
    (lt_Bridge___init__ : K.lookup T_Bridge___init__ = some ⟨toc_Bridge___init__, tod_Bridge___init__, .seq ([.none]).toArray tn_Bridge___init__, tsl_Bridge___init__⟩)
    (l_Weights___len__ : K.lookup f_Weights___len__ = some ⟨oc_Weights___len__, od_Weights___len__, .func (PySem.W.fnOf "__len__" "Weights.__len__" (defArgs s_Weights___len__) (defBody s_Weights___len__) (defScope s_Weights___len__) .none kV_Weights___len__ dc_Weights___len__ pm_Weights___len__ an_Weights___len__ cd_Weights___len__ ct_Weights___len__), sl_Weights___len__⟩)
    (c_Weights___len__ : PySem.W.codeIn K cd_Weights___len__ "Weights.__len__" = true)
    (k_Weights___len__ : PySem.W.keepIn K (.ref f_Weights___len__) = true)
    (a_check_weights : PySem.W.nsIn K mainGlobals "check_weights" = some (some (.ref f_check_weights)))
    (l_check_weights : K.lookup f_check_weights = some ⟨oc_check_weights, od_check_weights, .func (PySem.W.fnOf "check_weights" "check_weights" (defArgs s_check_weights) (defBody s_check_weights) (defScope s_check_weights) .none kV_check_weights dc_check_weights pm_check_weights an_check_weights cd_check_weights ct_check_weights), sl_check_weights⟩)
    (c_check_weights : PySem.W.codeIn K cd_check_weights "check_weights" = true)
    (k_check_weights : PySem.W.keepIn K (.ref f_check_weights) = true)
    (l_Motion___init__ : K.lookup f_Motion___init__ = some ⟨oc_Motion___init__, od_Motion___init__, .func (PySem.W.fnOf "__init__" "Motion.__init__" (defArgs s_Motion___init__) (defBody s_Motion___init__) (defScope s_Motion___init__) .none kV_Motion___init__ dc_Motion___init__ pm_Motion___init__ an_Motion___init__ cd_Motion___init__ ct_Motion___init__), sl_Motion___init__⟩)
    (c_Motion___init__ : PySem.W.codeIn K cd_Motion___init__ "Motion.__init__" = true)
    (k_Motion___init__ : PySem.W.keepIn K (.ref f_Motion___init__) = true)
    (l_Motion_none : K.lookup f_Motion_none = some ⟨oc_Motion_none, od_Motion_none, .func (PySem.W.fnOf "none" "Motion.none" (defArgs s_Motion_none) (defBody s_Motion_none) (defScope s_Motion_none) .none kV_Motion_none dc_Motion_none pm_Motion_none an_Motion_none cd_Motion_none ct_Motion_none), sl_Motion_none⟩)
    (c_Motion_none : PySem.W.codeIn K cd_Motion_none "Motion.none" = true)
    (k_Motion_none : PySem.W.keepIn K (.ref f_Motion_none) = true)
    (l_Motion_turning : K.lookup f_Motion_turning = some ⟨oc_Motion_turning, od_Motion_turning, .func (PySem.W.fnOf "turning" "Motion.turning" (defArgs s_Motion_turning) (defBody s_Motion_turning) (defScope s_Motion_turning) (.ref T_Motion_turning) kV_Motion_turning dc_Motion_turning pm_Motion_turning an_Motion_turning cd_Motion_turning ct_Motion_turning), sl_Motion_turning⟩)
    (c_Motion_turning : PySem.W.codeIn K cd_Motion_turning "Motion.turning" = true)
    (k_Motion_turning : PySem.W.keepIn K (.ref f_Motion_turning) = true)
    (lt_Motion_turning : K.lookup T_Motion_turning = some ⟨toc_Motion_turning, tod_Motion_turning, .seq ([.int 1 ttk0_Motion_turning]).toArray tn_Motion_turning, tsl_Motion_turning⟩)
    (a_side_of : PySem.W.nsIn K mainGlobals "side_of" = some (some (.ref f_side_of)))
    (l_side_of : K.lookup f_side_of = some ⟨oc_side_of, od_side_of, .func (PySem.W.fnOf "side_of" "side_of" (defArgs s_side_of) (defBody s_side_of) (defScope s_side_of) .none kV_side_of dc_side_of pm_side_of an_side_of cd_side_of ct_side_of), sl_side_of⟩)
    (c_side_of : PySem.W.codeIn K cd_side_of "side_of" = true)
    (k_side_of : PySem.W.keepIn K (.ref f_side_of) = true)
    (l_Weights___getitem__ : K.lookup f_Weights___getitem__ = some ⟨oc_Weights___getitem__, od_Weights___getitem__, .func (PySem.W.fnOf "__getitem__" "Weights.__getitem__" (defArgs s_Weights___getitem__) (defBody s_Weights___getitem__) (defScope s_Weights___getitem__) .none kV_Weights___getitem__ dc_Weights___getitem__ pm_Weights___getitem__ an_Weights___getitem__ cd_Weights___getitem__ ct_Weights___getitem__), sl_Weights___getitem__⟩)
    (c_Weights___getitem__ : PySem.W.codeIn K cd_Weights___getitem__ "Weights.__getitem__" = true)
    (k_Weights___getitem__ : PySem.W.keepIn K (.ref f_Weights___getitem__) = true)
    (l_Bridge_point : K.lookup f_Bridge_point = some ⟨oc_Bridge_point, od_Bridge_point, .func (PySem.W.fnOf "point" "Bridge.point" (defArgs s_Bridge_point) (defBody s_Bridge_point) (defScope s_Bridge_point) .none kV_Bridge_point dc_Bridge_point pm_Bridge_point an_Bridge_point cd_Bridge_point ct_Bridge_point), sl_Bridge_point⟩)
    (c_Bridge_point : PySem.W.codeIn K cd_Bridge_point "Bridge.point" = true)
    (k_Bridge_point : PySem.W.keepIn K (.ref f_Bridge_point) = true)
    (l_Motion___add__ : K.lookup f_Motion___add__ = some ⟨oc_Motion___add__, od_Motion___add__, .func (PySem.W.fnOf "__add__" "Motion.__add__" (defArgs s_Motion___add__) (defBody s_Motion___add__) (defScope s_Motion___add__) .none kV_Motion___add__ dc_Motion___add__ pm_Motion___add__ an_Motion___add__ cd_Motion___add__ ct_Motion___add__), sl_Motion___add__⟩)
    (c_Motion___add__ : PySem.W.codeIn K cd_Motion___add__ "Motion.__add__" = true)
    (k_Motion___add__ : PySem.W.keepIn K (.ref f_Motion___add__) = true)
    (a__motion_behind : PySem.W.nsIn K mainGlobals "_motion_behind" = some (some (.ref f__motion_behind)))
    (l__motion_behind : K.lookup f__motion_behind = some ⟨oc__motion_behind, od__motion_behind, .func (PySem.W.fnOf "_motion_behind" "_motion_behind" (defArgs s__motion_behind) (defBody s__motion_behind) (defScope s__motion_behind) .none kV__motion_behind dc__motion_behind pm__motion_behind an__motion_behind cd__motion_behind ct__motion_behind), sl__motion_behind⟩)
    (c__motion_behind : PySem.W.codeIn K cd__motion_behind "_motion_behind" = true)
    (k__motion_behind : PySem.W.keepIn K (.ref f__motion_behind) = true)
    (a_stone_motions : PySem.W.nsIn K mainGlobals "stone_motions" = some (some (.ref f_stone_motions)))
    (l_stone_motions : K.lookup f_stone_motions = some ⟨oc_stone_motions, od_stone_motions, .func (PySem.W.fnOf "stone_motions" "stone_motions" (defArgs s_stone_motions) (defBody s_stone_motions) (defScope s_stone_motions) .none kV_stone_motions dc_stone_motions pm_stone_motions an_stone_motions cd_stone_motions ct_stone_motions), sl_stone_motions⟩)
    (c_stone_motions : PySem.W.codeIn K cd_stone_motions "stone_motions" = true)
    (k_stone_motions : PySem.W.keepIn K (.ref f_stone_motions) = true)
    (a_motion_of : PySem.W.nsIn K mainGlobals "motion_of" = some (some (.ref f_motion_of)))
    (l_motion_of : K.lookup f_motion_of = some ⟨oc_motion_of, od_motion_of, .func (PySem.W.fnOf "motion_of" "motion_of" (defArgs s_motion_of) (defBody s_motion_of) (defScope s_motion_of) .none kV_motion_of dc_motion_of pm_motion_of an_motion_of cd_motion_of ct_motion_of), sl_motion_of⟩)
    (c_motion_of : PySem.W.codeIn K cd_motion_of "motion_of" = true)
    (k_motion_of : PySem.W.keepIn K (.ref f_motion_of) = true)
    (a__law_plain : PySem.W.nsIn K mainGlobals "_law_plain" = some (some (.ref f__law_plain)))
    (l__law_plain : K.lookup f__law_plain = some ⟨oc__law_plain, od__law_plain, .func (PySem.W.fnOf "_law_plain" "_law_plain" (defArgs s__law_plain) (defBody s__law_plain) (defScope s__law_plain) .none kV__law_plain dc__law_plain pm__law_plain an__law_plain cd__law_plain ct__law_plain), sl__law_plain⟩)
    (c__law_plain : PySem.W.codeIn K cd__law_plain "_law_plain" = true)
    (k__law_plain : PySem.W.keepIn K (.ref f__law_plain) = true)
    (a__law_corner : PySem.W.nsIn K mainGlobals "_law_corner" = some (some (.ref f__law_corner)))
    (l__law_corner : K.lookup f__law_corner = some ⟨oc__law_corner, od__law_corner, .func (PySem.W.fnOf "_law_corner" "_law_corner" (defArgs s__law_corner) (defBody s__law_corner) (defScope s__law_corner) .none kV__law_corner dc__law_corner pm__law_corner an__law_corner cd__law_corner ct__law_corner), sl__law_corner⟩)
    (c__law_corner : PySem.W.codeIn K cd__law_corner "_law_corner" = true)
    (k__law_corner : PySem.W.keepIn K (.ref f__law_corner) = true)
    (a__law_motion : PySem.W.nsIn K mainGlobals "_law_motion" = some (some (.ref f__law_motion)))
    (l__law_motion : K.lookup f__law_motion = some ⟨oc__law_motion, od__law_motion, .func (PySem.W.fnOf "_law_motion" "_law_motion" (defArgs s__law_motion) (defBody s__law_motion) (defScope s__law_motion) .none kV__law_motion dc__law_motion pm__law_motion an__law_motion cd__law_motion ct__law_motion), sl__law_motion⟩)
    (c__law_motion : PySem.W.codeIn K cd__law_motion "_law_motion" = true)
    (k__law_motion : PySem.W.keepIn K (.ref f__law_motion) = true)
    (a__law_at : PySem.W.nsIn K mainGlobals "_law_at" = some (some (.ref f__law_at)))
    (l__law_at : K.lookup f__law_at = some ⟨oc__law_at, od__law_at, .func (PySem.W.fnOf "_law_at" "_law_at" (defArgs s__law_at) (defBody s__law_at) (defScope s__law_at) .none kV__law_at dc__law_at pm__law_at an__law_at cd__law_at ct__law_at), sl__law_at⟩)
    (c__law_at : PySem.W.codeIn K cd__law_at "_law_at" = true)
    (k__law_at : PySem.W.keepIn K (.ref f__law_at) = true)
    (a__law_joint_opens : PySem.W.nsIn K mainGlobals "_law_joint_opens" = some (some (.ref f__law_joint_opens)))
    (l__law_joint_opens : K.lookup f__law_joint_opens = some ⟨oc__law_joint_opens, od__law_joint_opens, .func (PySem.W.fnOf "_law_joint_opens" "_law_joint_opens" (defArgs s__law_joint_opens) (defBody s__law_joint_opens) (defScope s__law_joint_opens) .none kV__law_joint_opens dc__law_joint_opens pm__law_joint_opens an__law_joint_opens cd__law_joint_opens ct__law_joint_opens), sl__law_joint_opens⟩)
    (c__law_joint_opens : PySem.W.codeIn K cd__law_joint_opens "_law_joint_opens" = true)
    (k__law_joint_opens : PySem.W.keepIn K (.ref f__law_joint_opens) = true)
    (a__law_all : PySem.W.nsIn K mainGlobals "_law_all" = some (some (.ref f__law_all)))
    (l__law_all : K.lookup f__law_all = some ⟨oc__law_all, od__law_all, .func (PySem.W.fnOf "_law_all" "_law_all" (defArgs s__law_all) (defBody s__law_all) (defScope s__law_all) .none kV__law_all dc__law_all pm__law_all an__law_all cd__law_all ct__law_all), sl__law_all⟩)
    (c__law_all : PySem.W.codeIn K cd__law_all "_law_all" = true)
    (k__law_all : PySem.W.keepIn K (.ref f__law_all) = true)
    (l_Weights___mul__ : K.lookup f_Weights___mul__ = some ⟨oc_Weights___mul__, od_Weights___mul__, .func (PySem.W.fnOf "__mul__" "Weights.__mul__" (defArgs s_Weights___mul__) (defBody s_Weights___mul__) (defScope s_Weights___mul__) .none kV_Weights___mul__ dc_Weights___mul__ pm_Weights___mul__ an_Weights___mul__ cd_Weights___mul__ ct_Weights___mul__), sl_Weights___mul__⟩)
    (c_Weights___mul__ : PySem.W.codeIn K cd_Weights___mul__ "Weights.__mul__" = true)
    (k_Weights___mul__ : PySem.W.keepIn K (.ref f_Weights___mul__) = true)
    (l_Weights___add__ : K.lookup f_Weights___add__ = some ⟨oc_Weights___add__, od_Weights___add__, .func (PySem.W.fnOf "__add__" "Weights.__add__" (defArgs s_Weights___add__) (defBody s_Weights___add__) (defScope s_Weights___add__) .none kV_Weights___add__ dc_Weights___add__ pm_Weights___add__ an_Weights___add__ cd_Weights___add__ ct_Weights___add__), sl_Weights___add__⟩)
    (c_Weights___add__ : PySem.W.codeIn K cd_Weights___add__ "Weights.__add__" = true)
    (k_Weights___add__ : PySem.W.keepIn K (.ref f_Weights___add__) = true)
    (l_Weights___iter__ : K.lookup f_Weights___iter__ = some ⟨oc_Weights___iter__, od_Weights___iter__, .func (PySem.W.fnOf "__iter__" "Weights.__iter__" (defArgs s_Weights___iter__) (defBody s_Weights___iter__) (defScope s_Weights___iter__) .none kV_Weights___iter__ dc_Weights___iter__ pm_Weights___iter__ an_Weights___iter__ cd_Weights___iter__ ct_Weights___iter__), sl_Weights___iter__⟩)
    (c_Weights___iter__ : PySem.W.codeIn K cd_Weights___iter__ "Weights.__iter__" = true)
    (k_Weights___iter__ : PySem.W.keepIn K (.ref f_Weights___iter__) = true)
    (a__law_other_size : PySem.W.nsIn K mainGlobals "_law_other_size" = some (some (.ref f__law_other_size)))
    (l__law_other_size : K.lookup f__law_other_size = some ⟨oc__law_other_size, od__law_other_size, .func (PySem.W.fnOf "_law_other_size" "_law_other_size" (defArgs s__law_other_size) (defBody s__law_other_size) (defScope s__law_other_size) .none kV__law_other_size dc__law_other_size pm__law_other_size an__law_other_size cd__law_other_size ct__law_other_size), sl__law_other_size⟩)
    (c__law_other_size : PySem.W.codeIn K cd__law_other_size "_law_other_size" = true)
    (k__law_other_size : PySem.W.keepIn K (.ref f__law_other_size) = true)
    (a_law : PySem.W.nsIn K mainGlobals "law" = some (some (.ref f_law)))
    (l_law : K.lookup f_law = some ⟨oc_law, od_law, .func (PySem.W.fnOf "law" "law" (defArgs s_law) (defBody s_law) (defScope s_law) .none kV_law dc_law pm_law an_law cd_law ct_law), sl_law⟩)
    (c_law : PySem.W.codeIn K cd_law "law" = true)
    (k_law : PySem.W.keepIn K (.ref f_law) = true)
    (ac_BridgeError : PySem.W.nsIn K mainGlobals "BridgeError" = some (some (.ref C_BridgeError)))
    (ac_BadForce : PySem.W.nsIn K mainGlobals "BadForce" = some (some (.ref C_BadForce)))
    (ac_BadLoad : PySem.W.nsIn K mainGlobals "BadLoad" = some (some (.ref C_BadLoad)))
    (ac_OtherSize : PySem.W.nsIn K mainGlobals "OtherSize" = some (some (.ref C_OtherSize)))
    (ac_NoStone : PySem.W.nsIn K mainGlobals "NoStone" = some (some (.ref C_NoStone)))
    (ac_NoCorner : PySem.W.nsIn K mainGlobals "NoCorner" = some (some (.ref C_NoCorner)))
    (ac_BadBridge : PySem.W.nsIn K mainGlobals "BadBridge" = some (some (.ref C_BadBridge)))
    (ac_NoPart : PySem.W.nsIn K mainGlobals "NoPart" = some (some (.ref C_NoPart)))
    (ac_BadMotion : PySem.W.nsIn K mainGlobals "BadMotion" = some (some (.ref C_BadMotion)))
    (ac_BadWeights : PySem.W.nsIn K mainGlobals "BadWeights" = some (some (.ref C_BadWeights)))
    (ac_Force : PySem.W.nsIn K mainGlobals "Force" = some (some (.ref C_Force)))
    (ac_Load : PySem.W.nsIn K mainGlobals "Load" = some (some (.ref C_Load)))
    (ac_Bridge : PySem.W.nsIn K mainGlobals "Bridge" = some (some (.ref C_Bridge)))
    (ac_Motion : PySem.W.nsIn K mainGlobals "Motion" = some (some (.ref C_Motion)))
    (ac_Weights : PySem.W.nsIn K mainGlobals "Weights" = some (some (.ref C_Weights)))
    (pg_Force : PySem.W.plainGet K C_Force Str.empty = true)
    (hd_Force : PySem.W.hasDictIn K C_Force = true)
    (po_Force : PySem.W.plainOver K C_Force = true)
    (sa_Force : PySem.W.findIn K (.ref C_Force) "__setattr__" = some (some (.builtin "object.__setattr__")))
    (na_Force_across : PySem.W.findIn K (.ref C_Force) "across" = some none)
    (na_Force_up : PySem.W.findIn K (.ref C_Force) "up" = some none)
    (na_Force_moment : PySem.W.findIn K (.ref C_Force) "moment" = some none)
    (pg_Load : PySem.W.plainGet K C_Load Str.empty = true)
    (hd_Load : PySem.W.hasDictIn K C_Load = true)
    (po_Load : PySem.W.plainOver K C_Load = true)
    (sa_Load : PySem.W.findIn K (.ref C_Load) "__setattr__" = some (some (.builtin "object.__setattr__")))
    (na_Load_forces : PySem.W.findIn K (.ref C_Load) "forces" = some none)
    (pg_Bridge : PySem.W.plainGet K C_Bridge Str.empty = true)
    (hd_Bridge : PySem.W.hasDictIn K C_Bridge = true)
    (po_Bridge : PySem.W.plainOver K C_Bridge = true)
    (sa_Bridge : PySem.W.findIn K (.ref C_Bridge) "__setattr__" = some (some (.builtin "object.__setattr__")))
    (na_Bridge_joints : PySem.W.findIn K (.ref C_Bridge) "joints" = some none)
    (na_Bridge_stones : PySem.W.findIn K (.ref C_Bridge) "stones" = some none)
    (na_Bridge_corner_count : PySem.W.findIn K (.ref C_Bridge) "corner_count" = some none)
    (na_Bridge_own : PySem.W.findIn K (.ref C_Bridge) "own" = some none)
    (pg_Motion : PySem.W.plainGet K C_Motion Str.empty = true)
    (hd_Motion : PySem.W.hasDictIn K C_Motion = true)
    (po_Motion : PySem.W.plainOver K C_Motion = true)
    (sa_Motion : PySem.W.findIn K (.ref C_Motion) "__setattr__" = some (some (.builtin "object.__setattr__")))
    (na_Motion_across : PySem.W.findIn K (.ref C_Motion) "across" = some none)
    (na_Motion_up : PySem.W.findIn K (.ref C_Motion) "up" = some none)
    (na_Motion_turn : PySem.W.findIn K (.ref C_Motion) "turn" = some none)
    (pg_Weights : PySem.W.plainGet K C_Weights Str.empty = true)
    (hd_Weights : PySem.W.hasDictIn K C_Weights = true)
    (po_Weights : PySem.W.plainOver K C_Weights = true)
    (sa_Weights : PySem.W.findIn K (.ref C_Weights) "__setattr__" = some (some (.builtin "object.__setattr__")))
    (na_Weights_numbers : PySem.W.findIn K (.ref C_Weights) "numbers" = some none)
    (mk_Weights : PySem.W.makesIn K C_Weights = true)
    (fi_Weights : PySem.W.findIn K (.ref C_Weights) "__init__" = some (some (.ref f_Weights___init__)))
    (fn_Weights___init__ : PySem.W.isFn K (.ref f_Weights___init__) = true)
    (kc_Weights : PySem.W.keepIn K (.ref C_Weights) = true)
    (mk_Load : PySem.W.makesIn K C_Load = true)
    (fi_Load : PySem.W.findIn K (.ref C_Load) "__init__" = some (some (.ref f_Load___init__)))
    (fn_Load___init__ : PySem.W.isFn K (.ref f_Load___init__) = true)
    (kc_Load : PySem.W.keepIn K (.ref C_Load) = true)
    (mk_Force : PySem.W.makesIn K C_Force = true)
    (fi_Force : PySem.W.findIn K (.ref C_Force) "__init__" = some (some (.ref f_Force___init__)))
    (fn_Force___init__ : PySem.W.isFn K (.ref f_Force___init__) = true)
    (kc_Force : PySem.W.keepIn K (.ref C_Force) = true)
    (mk_Bridge : PySem.W.makesIn K C_Bridge = true)
    (fi_Bridge : PySem.W.findIn K (.ref C_Bridge) "__init__" = some (some (.ref f_Bridge___init__)))
    (fn_Bridge___init__ : PySem.W.isFn K (.ref f_Bridge___init__) = true)
    (kc_Bridge : PySem.W.keepIn K (.ref C_Bridge) = true)
    (mk_Motion : PySem.W.makesIn K C_Motion = true)
    (fi_Motion : PySem.W.findIn K (.ref C_Motion) "__init__" = some (some (.ref f_Motion___init__)))
    (fn_Motion___init__ : PySem.W.isFn K (.ref f_Motion___init__) = true)
    (kc_Motion : PySem.W.keepIn K (.ref C_Motion) = true)
    (sf_Motion : PySem.W.selfFirst K C_Motion = true)
    (of_Motion___add__ : PySem.W.findIn K (.ref C_Motion) (PySem.dunder (Operator.info .Add).2) = some (some (.ref f_Motion___add__)))
    (fn_Motion___add__ : PySem.W.isFn K (.ref f_Motion___add__) = true)
    (sf_Weights : PySem.W.selfFirst K C_Weights = true)
    (of_Weights___mul__ : PySem.W.findIn K (.ref C_Weights) (PySem.dunder (Operator.info .Mult).2) = some (some (.ref f_Weights___mul__)))
    (fn_Weights___mul__ : PySem.W.isFn K (.ref f_Weights___mul__) = true)
    (of_Weights___add__ : PySem.W.findIn K (.ref C_Weights) (PySem.dunder (Operator.info .Add).2) = some (some (.ref f_Weights___add__)))
    (fn_Weights___add__ : PySem.W.isFn K (.ref f_Weights___add__) = true)
    (or_Weights___mul__ : PySem.W.findIn K (.ref C_Weights) (dunderR (Operator.info .Mult).2) = some none)
    (o1_Weights___mul__ : PySem.W.findIn K (.type "int") (PySem.dunder (Operator.info .Mult).2) = some fo_Weights___mul__)
    (o2_Weights___mul__ : PySem.W.findIn K (.type "int") (dunderR (Operator.info .Mult).2) = some ro_Weights___mul__)
    (o3_Weights___mul__ : PySem.W.subIn K (.type "int") (.ref C_Weights) = some false)
    (of_Load___len__ : PySem.W.findIn K (.ref C_Load) "__len__" = some (some (.ref f_Load___len__)))
    (fn_Load___len__ : PySem.W.isFn K (.ref f_Load___len__) = true)
    (ci_Load___len__ : PySem.W.fnIn K f_Load___len__ = true)
    (of_Weights___len__ : PySem.W.findIn K (.ref C_Weights) "__len__" = some (some (.ref f_Weights___len__)))
    (fn_Weights___len__ : PySem.W.isFn K (.ref f_Weights___len__) = true)
    (ci_Weights___len__ : PySem.W.fnIn K f_Weights___len__ = true)
    (of_Weights___getitem__ : PySem.W.findIn K (.ref C_Weights) "__getitem__" = some (some (.ref f_Weights___getitem__)))
    (fn_Weights___getitem__ : PySem.W.isFn K (.ref f_Weights___getitem__) = true)
    (ci_Weights___getitem__ : PySem.W.fnIn K f_Weights___getitem__ = true)
    (of_Weights___iter__ : PySem.W.findIn K (.ref C_Weights) "__iter__" = some (some (.ref f_Weights___iter__)))
    (fn_Weights___iter__ : PySem.W.isFn K (.ref f_Weights___iter__) = true)
    (ci_Weights___iter__ : PySem.W.fnIn K f_Weights___iter__ = true)
    (cr_Force_none : PySem.W.readsIn K C_Force (.type "type") = true)
    (cg_Force_none : PySem.W.specialIn K (.ref C_Force) "__getattribute__" = some (some (.builtin "type.__getattribute__")))
    (cf_Force_none : PySem.W.findCls K (.ref C_Force) (.type "type") "none" = some (.get (.builtin "classmethod.__get__") (.ref P_Force_none) .none (.ref C_Force)))
    (cc_Force_none : PySem.W.recIn K P_Force_none "classmethod" = some (.ref f_Force_none :: re_Force_none))
    (ci_Force_none : PySem.W.fnIn K f_Force_none = true)
    (cr_Load_none : PySem.W.readsIn K C_Load (.type "type") = true)
    (cg_Load_none : PySem.W.specialIn K (.ref C_Load) "__getattribute__" = some (some (.builtin "type.__getattribute__")))
    (cf_Load_none : PySem.W.findCls K (.ref C_Load) (.type "type") "none" = some (.get (.builtin "classmethod.__get__") (.ref P_Load_none) .none (.ref C_Load)))
    (cc_Load_none : PySem.W.recIn K P_Load_none "classmethod" = some (.ref f_Load_none :: re_Load_none))
    (ci_Load_none : PySem.W.fnIn K f_Load_none = true)
    (cr_Motion_none : PySem.W.readsIn K C_Motion (.type "type") = true)
    (cg_Motion_none : PySem.W.specialIn K (.ref C_Motion) "__getattribute__" = some (some (.builtin "type.__getattribute__")))
    (cf_Motion_none : PySem.W.findCls K (.ref C_Motion) (.type "type") "none" = some (.get (.builtin "classmethod.__get__") (.ref P_Motion_none) .none (.ref C_Motion)))
    (cc_Motion_none : PySem.W.recIn K P_Motion_none "classmethod" = some (.ref f_Motion_none :: re_Motion_none))
    (ci_Motion_none : PySem.W.fnIn K f_Motion_none = true)
    (cr_Motion_turning : PySem.W.readsIn K C_Motion (.type "type") = true)
    (cg_Motion_turning : PySem.W.specialIn K (.ref C_Motion) "__getattribute__" = some (some (.builtin "type.__getattribute__")))
    (cf_Motion_turning : PySem.W.findCls K (.ref C_Motion) (.type "type") "turning" = some (.get (.builtin "classmethod.__get__") (.ref P_Motion_turning) .none (.ref C_Motion)))
    (cc_Motion_turning : PySem.W.recIn K P_Motion_turning "classmethod" = some (.ref f_Motion_turning :: re_Motion_turning))
    (ci_Motion_turning : PySem.W.fnIn K f_Motion_turning = true)
    (mf_Bridge_point : PySem.W.findIn K (.ref C_Bridge) "point" = some (some (.ref f_Bridge_point)))
    (fn_Bridge_point : PySem.W.isFn K (.ref f_Bridge_point) = true)
    (x1_BadForce : K.lookup C_BadForce = some (excClassObj nm_BadForce qn_BadForce C_BadForce N_BadForce bs_BadForce bm_BadForce true sn_BadForce sub_BadForce ab_BadForce col_BadForce dd_BadForce k0_BadForce k1_BadForce k2_BadForce k3_BadForce k5_BadForce "ValueError.__new__"))
    (x2_BadForce : PySem.HandSPX.refsVE bm_BadForce = true)
    (x3_BadForce : PySem.W.findIn K (.ref C_BadForce) "__setattr__" = some (some (.builtin "object.__setattr__")))
    (x4_BadForce : PySem.W.subIn K (.ref C_BadForce) (.type "BaseException") = some true)
    (x5_BadForce : PySem.W.typeIn K (.ref C_BadForce) = some (.type "type"))
    (x6_BadForce : PySem.W.keepIn K (.ref C_BadForce) = true)
    (x7_BadForce : PySem.W.findIn K (.ref C_BadForce) "__init__" = some (some (.ref I_BadForce)))
    (x8_BadForce : PySem.W.typeIn K (.ref I_BadForce) = some (.type "function"))
    (li_BadForce : K.lookup I_BadForce = some ⟨oci_BadForce, odi_BadForce, .func (PySem.W.fnOf "__init__" "BadForce.__init__" (defArgs si_BadForce) (defBody si_BadForce) (defScope si_BadForce) .none kVi_BadForce dci_BadForce pmi_BadForce ani_BadForce cdi_BadForce cti_BadForce), sli_BadForce⟩)
    (cdi_BadForce_ : PySem.W.codeIn K cdi_BadForce "BadForce.__init__" = true)
    (ki_BadForce : PySem.W.keepIn K (.ref I_BadForce) = true)
    (xn_BadForce_what : PySem.W.findIn K (.ref C_BadForce) "what" = some none)
    (x1_BadLoad : K.lookup C_BadLoad = some (excClassObj nm_BadLoad qn_BadLoad C_BadLoad N_BadLoad bs_BadLoad bm_BadLoad true sn_BadLoad sub_BadLoad ab_BadLoad col_BadLoad dd_BadLoad k0_BadLoad k1_BadLoad k2_BadLoad k3_BadLoad k5_BadLoad "ValueError.__new__"))
    (x2_BadLoad : PySem.HandSPX.refsVE bm_BadLoad = true)
    (x3_BadLoad : PySem.W.findIn K (.ref C_BadLoad) "__setattr__" = some (some (.builtin "object.__setattr__")))
    (x4_BadLoad : PySem.W.subIn K (.ref C_BadLoad) (.type "BaseException") = some true)
    (x5_BadLoad : PySem.W.typeIn K (.ref C_BadLoad) = some (.type "type"))
    (x6_BadLoad : PySem.W.keepIn K (.ref C_BadLoad) = true)
    (x7_BadLoad : PySem.W.findIn K (.ref C_BadLoad) "__init__" = some (some (.ref I_BadLoad)))
    (x8_BadLoad : PySem.W.typeIn K (.ref I_BadLoad) = some (.type "function"))
    (li_BadLoad : K.lookup I_BadLoad = some ⟨oci_BadLoad, odi_BadLoad, .func (PySem.W.fnOf "__init__" "BadLoad.__init__" (defArgs si_BadLoad) (defBody si_BadLoad) (defScope si_BadLoad) .none kVi_BadLoad dci_BadLoad pmi_BadLoad ani_BadLoad cdi_BadLoad cti_BadLoad), sli_BadLoad⟩)
    (cdi_BadLoad_ : PySem.W.codeIn K cdi_BadLoad "BadLoad.__init__" = true)
    (ki_BadLoad : PySem.W.keepIn K (.ref I_BadLoad) = true)
    (xn_BadLoad_what : PySem.W.findIn K (.ref C_BadLoad) "what" = some none)
    (x1_OtherSize : K.lookup C_OtherSize = some (excClassObj nm_OtherSize qn_OtherSize C_OtherSize N_OtherSize bs_OtherSize bm_OtherSize true sn_OtherSize sub_OtherSize ab_OtherSize col_OtherSize dd_OtherSize k0_OtherSize k1_OtherSize k2_OtherSize k3_OtherSize k5_OtherSize "ValueError.__new__"))
    (x2_OtherSize : PySem.HandSPX.refsVE bm_OtherSize = true)
    (x3_OtherSize : PySem.W.findIn K (.ref C_OtherSize) "__setattr__" = some (some (.builtin "object.__setattr__")))
    (x4_OtherSize : PySem.W.subIn K (.ref C_OtherSize) (.type "BaseException") = some true)
    (x5_OtherSize : PySem.W.typeIn K (.ref C_OtherSize) = some (.type "type"))
    (x6_OtherSize : PySem.W.keepIn K (.ref C_OtherSize) = true)
    (x7_OtherSize : PySem.W.findIn K (.ref C_OtherSize) "__init__" = some (some (.ref I_OtherSize)))
    (x8_OtherSize : PySem.W.typeIn K (.ref I_OtherSize) = some (.type "function"))
    (li_OtherSize : K.lookup I_OtherSize = some ⟨oci_OtherSize, odi_OtherSize, .func (PySem.W.fnOf "__init__" "OtherSize.__init__" (defArgs si_OtherSize) (defBody si_OtherSize) (defScope si_OtherSize) .none kVi_OtherSize dci_OtherSize pmi_OtherSize ani_OtherSize cdi_OtherSize cti_OtherSize), sli_OtherSize⟩)
    (cdi_OtherSize_ : PySem.W.codeIn K cdi_OtherSize "OtherSize.__init__" = true)
    (ki_OtherSize : PySem.W.keepIn K (.ref I_OtherSize) = true)
    (x1_NoCorner : K.lookup C_NoCorner = some (excClassObj nm_NoCorner qn_NoCorner C_NoCorner N_NoCorner bs_NoCorner bm_NoCorner true sn_NoCorner sub_NoCorner ab_NoCorner col_NoCorner dd_NoCorner k0_NoCorner k1_NoCorner k2_NoCorner k3_NoCorner k5_NoCorner "ValueError.__new__"))
    (x2_NoCorner : PySem.HandSPX.refsVE bm_NoCorner = true)
    (x3_NoCorner : PySem.W.findIn K (.ref C_NoCorner) "__setattr__" = some (some (.builtin "object.__setattr__")))
    (x4_NoCorner : PySem.W.subIn K (.ref C_NoCorner) (.type "BaseException") = some true)
    (x5_NoCorner : PySem.W.typeIn K (.ref C_NoCorner) = some (.type "type"))
    (x6_NoCorner : PySem.W.keepIn K (.ref C_NoCorner) = true)
    (x7_NoCorner : PySem.W.findIn K (.ref C_NoCorner) "__init__" = some (some (.ref I_NoCorner)))
    (x8_NoCorner : PySem.W.typeIn K (.ref I_NoCorner) = some (.type "function"))
    (li_NoCorner : K.lookup I_NoCorner = some ⟨oci_NoCorner, odi_NoCorner, .func (PySem.W.fnOf "__init__" "NoCorner.__init__" (defArgs si_NoCorner) (defBody si_NoCorner) (defScope si_NoCorner) .none kVi_NoCorner dci_NoCorner pmi_NoCorner ani_NoCorner cdi_NoCorner cti_NoCorner), sli_NoCorner⟩)
    (cdi_NoCorner_ : PySem.W.codeIn K cdi_NoCorner "NoCorner.__init__" = true)
    (ki_NoCorner : PySem.W.keepIn K (.ref I_NoCorner) = true)
    (xn_NoCorner_corner : PySem.W.findIn K (.ref C_NoCorner) "corner" = some none)
    (x1_BadBridge : K.lookup C_BadBridge = some (excClassObj nm_BadBridge qn_BadBridge C_BadBridge N_BadBridge bs_BadBridge bm_BadBridge true sn_BadBridge sub_BadBridge ab_BadBridge col_BadBridge dd_BadBridge k0_BadBridge k1_BadBridge k2_BadBridge k3_BadBridge k5_BadBridge "ValueError.__new__"))
    (x2_BadBridge : PySem.HandSPX.refsVE bm_BadBridge = true)
    (x3_BadBridge : PySem.W.findIn K (.ref C_BadBridge) "__setattr__" = some (some (.builtin "object.__setattr__")))
    (x4_BadBridge : PySem.W.subIn K (.ref C_BadBridge) (.type "BaseException") = some true)
    (x5_BadBridge : PySem.W.typeIn K (.ref C_BadBridge) = some (.type "type"))
    (x6_BadBridge : PySem.W.keepIn K (.ref C_BadBridge) = true)
    (x7_BadBridge : PySem.W.findIn K (.ref C_BadBridge) "__init__" = some (some (.ref I_BadBridge)))
    (x8_BadBridge : PySem.W.typeIn K (.ref I_BadBridge) = some (.type "function"))
    (li_BadBridge : K.lookup I_BadBridge = some ⟨oci_BadBridge, odi_BadBridge, .func (PySem.W.fnOf "__init__" "BadBridge.__init__" (defArgs si_BadBridge) (defBody si_BadBridge) (defScope si_BadBridge) .none kVi_BadBridge dci_BadBridge pmi_BadBridge ani_BadBridge cdi_BadBridge cti_BadBridge), sli_BadBridge⟩)
    (cdi_BadBridge_ : PySem.W.codeIn K cdi_BadBridge "BadBridge.__init__" = true)
    (ki_BadBridge : PySem.W.keepIn K (.ref I_BadBridge) = true)
    (xn_BadBridge_what : PySem.W.findIn K (.ref C_BadBridge) "what" = some none)
    (xn_BadBridge_joint : PySem.W.findIn K (.ref C_BadBridge) "joint" = some none)
    (x1_BadMotion : K.lookup C_BadMotion = some (excClassObj nm_BadMotion qn_BadMotion C_BadMotion N_BadMotion bs_BadMotion bm_BadMotion true sn_BadMotion sub_BadMotion ab_BadMotion col_BadMotion dd_BadMotion k0_BadMotion k1_BadMotion k2_BadMotion k3_BadMotion k5_BadMotion "ValueError.__new__"))
    (x2_BadMotion : PySem.HandSPX.refsVE bm_BadMotion = true)
    (x3_BadMotion : PySem.W.findIn K (.ref C_BadMotion) "__setattr__" = some (some (.builtin "object.__setattr__")))
    (x4_BadMotion : PySem.W.subIn K (.ref C_BadMotion) (.type "BaseException") = some true)
    (x5_BadMotion : PySem.W.typeIn K (.ref C_BadMotion) = some (.type "type"))
    (x6_BadMotion : PySem.W.keepIn K (.ref C_BadMotion) = true)
    (x7_BadMotion : PySem.W.findIn K (.ref C_BadMotion) "__init__" = some (some (.ref I_BadMotion)))
    (x8_BadMotion : PySem.W.typeIn K (.ref I_BadMotion) = some (.type "function"))
    (li_BadMotion : K.lookup I_BadMotion = some ⟨oci_BadMotion, odi_BadMotion, .func (PySem.W.fnOf "__init__" "BadMotion.__init__" (defArgs si_BadMotion) (defBody si_BadMotion) (defScope si_BadMotion) .none kVi_BadMotion dci_BadMotion pmi_BadMotion ani_BadMotion cdi_BadMotion cti_BadMotion), sli_BadMotion⟩)
    (cdi_BadMotion_ : PySem.W.codeIn K cdi_BadMotion "BadMotion.__init__" = true)
    (ki_BadMotion : PySem.W.keepIn K (.ref I_BadMotion) = true)
    (x1_BadWeights : K.lookup C_BadWeights = some (excClassObj nm_BadWeights qn_BadWeights C_BadWeights N_BadWeights bs_BadWeights bm_BadWeights true sn_BadWeights sub_BadWeights ab_BadWeights col_BadWeights dd_BadWeights k0_BadWeights k1_BadWeights k2_BadWeights k3_BadWeights k5_BadWeights "ValueError.__new__"))
    (x2_BadWeights : PySem.HandSPX.refsVE bm_BadWeights = true)
    (x3_BadWeights : PySem.W.findIn K (.ref C_BadWeights) "__setattr__" = some (some (.builtin "object.__setattr__")))
    (x4_BadWeights : PySem.W.subIn K (.ref C_BadWeights) (.type "BaseException") = some true)
    (x5_BadWeights : PySem.W.typeIn K (.ref C_BadWeights) = some (.type "type"))
    (x6_BadWeights : PySem.W.keepIn K (.ref C_BadWeights) = true)
    (x7_BadWeights : PySem.W.findIn K (.ref C_BadWeights) "__init__" = some (some (.ref I_BadWeights)))
    (x8_BadWeights : PySem.W.typeIn K (.ref I_BadWeights) = some (.type "function"))
    (li_BadWeights : K.lookup I_BadWeights = some ⟨oci_BadWeights, odi_BadWeights, .func (PySem.W.fnOf "__init__" "BadWeights.__init__" (defArgs si_BadWeights) (defBody si_BadWeights) (defScope si_BadWeights) .none kVi_BadWeights dci_BadWeights pmi_BadWeights ani_BadWeights cdi_BadWeights cti_BadWeights), sli_BadWeights⟩)
    (cdi_BadWeights_ : PySem.W.codeIn K cdi_BadWeights "BadWeights.__init__" = true)
    (ki_BadWeights : PySem.W.keepIn K (.ref I_BadWeights) = true)
    (xn_BadWeights_what : PySem.W.findIn K (.ref C_BadWeights) "what" = some none)
    (e1_BridgeError : PySem.W.subIn K (.ref C_BridgeError) (.type "BaseException") = some true)
    (e2_BridgeError : PySem.W.hasDictIn K C_BridgeError = true)
    (e3_BridgeError : PySem.W.typeIn K (.ref C_BridgeError) = some (.type "type"))
    (es_BadForce_BridgeError : PySem.W.subIn K (.ref C_BadForce) (.ref C_BridgeError) = some true)
    (es_BadLoad_BridgeError : PySem.W.subIn K (.ref C_BadLoad) (.ref C_BridgeError) = some true)
    (es_OtherSize_BridgeError : PySem.W.subIn K (.ref C_OtherSize) (.ref C_BridgeError) = some true)
    (es_NoCorner_BridgeError : PySem.W.subIn K (.ref C_NoCorner) (.ref C_BridgeError) = some true)
    (es_BadBridge_BridgeError : PySem.W.subIn K (.ref C_BadBridge) (.ref C_BridgeError) = some true)
    (es_BadMotion_BridgeError : PySem.W.subIn K (.ref C_BadMotion) (.ref C_BridgeError) = some true)
    (es_BadWeights_BridgeError : PySem.W.subIn K (.ref C_BadWeights) (.ref C_BridgeError) = some true)
    (y1_BadBridge : PySem.W.findIn K (.ref C_BadBridge) "__getattribute__" = some (some (.builtin "BaseException.__getattribute__")))
    (y2_BadBridge : PySem.W.findIn K (.ref C_BadBridge) "__getattr__" = some none)
    (y3_BadBridge : PySem.W.subIn K (.ref C_BadBridge) (.type "BaseException") = some true)
    (y4_BadBridge : PySem.W.hasDictIn K C_BadBridge = true)
    (y5_BadBridge : PySem.W.findIn K (.ref C_BadBridge) "__class__" = some (some (.builtin "object.__class__")))
    (y6_BadBridge : PySem.W.specialIn K (.builtin "object.__class__") "__get__" = some (some (.builtin "getset_descriptor.__get__")))
    (y7_BadBridge : PySem.W.takesIn K (.builtin "object.__class__") = some true)
    (y8_BadBridge : PySem.W.mroIn K C_BadBridge (.type "object") = some true)
    (y1_BadForce : PySem.W.findIn K (.ref C_BadForce) "__getattribute__" = some (some (.builtin "BaseException.__getattribute__")))
    (y2_BadForce : PySem.W.findIn K (.ref C_BadForce) "__getattr__" = some none)
    (y3_BadForce : PySem.W.subIn K (.ref C_BadForce) (.type "BaseException") = some true)
    (y4_BadForce : PySem.W.hasDictIn K C_BadForce = true)
    (y5_BadForce : PySem.W.findIn K (.ref C_BadForce) "__class__" = some (some (.builtin "object.__class__")))
    (y6_BadForce : PySem.W.specialIn K (.builtin "object.__class__") "__get__" = some (some (.builtin "getset_descriptor.__get__")))
    (y7_BadForce : PySem.W.takesIn K (.builtin "object.__class__") = some true)
    (y8_BadForce : PySem.W.mroIn K C_BadForce (.type "object") = some true)
    (y1_BadLoad : PySem.W.findIn K (.ref C_BadLoad) "__getattribute__" = some (some (.builtin "BaseException.__getattribute__")))
    (y2_BadLoad : PySem.W.findIn K (.ref C_BadLoad) "__getattr__" = some none)
    (y3_BadLoad : PySem.W.subIn K (.ref C_BadLoad) (.type "BaseException") = some true)
    (y4_BadLoad : PySem.W.hasDictIn K C_BadLoad = true)
    (y5_BadLoad : PySem.W.findIn K (.ref C_BadLoad) "__class__" = some (some (.builtin "object.__class__")))
    (y6_BadLoad : PySem.W.specialIn K (.builtin "object.__class__") "__get__" = some (some (.builtin "getset_descriptor.__get__")))
    (y7_BadLoad : PySem.W.takesIn K (.builtin "object.__class__") = some true)
    (y8_BadLoad : PySem.W.mroIn K C_BadLoad (.type "object") = some true)
    (y1_BadMotion : PySem.W.findIn K (.ref C_BadMotion) "__getattribute__" = some (some (.builtin "BaseException.__getattribute__")))
    (y2_BadMotion : PySem.W.findIn K (.ref C_BadMotion) "__getattr__" = some none)
    (y3_BadMotion : PySem.W.subIn K (.ref C_BadMotion) (.type "BaseException") = some true)
    (y4_BadMotion : PySem.W.hasDictIn K C_BadMotion = true)
    (y5_BadMotion : PySem.W.findIn K (.ref C_BadMotion) "__class__" = some (some (.builtin "object.__class__")))
    (y6_BadMotion : PySem.W.specialIn K (.builtin "object.__class__") "__get__" = some (some (.builtin "getset_descriptor.__get__")))
    (y7_BadMotion : PySem.W.takesIn K (.builtin "object.__class__") = some true)
    (y8_BadMotion : PySem.W.mroIn K C_BadMotion (.type "object") = some true)
    (y1_BadWeights : PySem.W.findIn K (.ref C_BadWeights) "__getattribute__" = some (some (.builtin "BaseException.__getattribute__")))
    (y2_BadWeights : PySem.W.findIn K (.ref C_BadWeights) "__getattr__" = some none)
    (y3_BadWeights : PySem.W.subIn K (.ref C_BadWeights) (.type "BaseException") = some true)
    (y4_BadWeights : PySem.W.hasDictIn K C_BadWeights = true)
    (y5_BadWeights : PySem.W.findIn K (.ref C_BadWeights) "__class__" = some (some (.builtin "object.__class__")))
    (y6_BadWeights : PySem.W.specialIn K (.builtin "object.__class__") "__get__" = some (some (.builtin "getset_descriptor.__get__")))
    (y7_BadWeights : PySem.W.takesIn K (.builtin "object.__class__") = some true)
    (y8_BadWeights : PySem.W.mroIn K C_BadWeights (.type "object") = some true)
    (y1_NoCorner : PySem.W.findIn K (.ref C_NoCorner) "__getattribute__" = some (some (.builtin "BaseException.__getattribute__")))
    (y2_NoCorner : PySem.W.findIn K (.ref C_NoCorner) "__getattr__" = some none)
    (y3_NoCorner : PySem.W.subIn K (.ref C_NoCorner) (.type "BaseException") = some true)
    (y4_NoCorner : PySem.W.hasDictIn K C_NoCorner = true)
    (y5_NoCorner : PySem.W.findIn K (.ref C_NoCorner) "__class__" = some (some (.builtin "object.__class__")))
    (y6_NoCorner : PySem.W.specialIn K (.builtin "object.__class__") "__get__" = some (some (.builtin "getset_descriptor.__get__")))
    (y7_NoCorner : PySem.W.takesIn K (.builtin "object.__class__") = some true)
    (y8_NoCorner : PySem.W.mroIn K C_NoCorner (.type "object") = some true)
    (y1_OtherSize : PySem.W.findIn K (.ref C_OtherSize) "__getattribute__" = some (some (.builtin "BaseException.__getattribute__")))
    (y2_OtherSize : PySem.W.findIn K (.ref C_OtherSize) "__getattr__" = some none)
    (y3_OtherSize : PySem.W.subIn K (.ref C_OtherSize) (.type "BaseException") = some true)
    (y4_OtherSize : PySem.W.hasDictIn K C_OtherSize = true)
    (y5_OtherSize : PySem.W.findIn K (.ref C_OtherSize) "__class__" = some (some (.builtin "object.__class__")))
    (y6_OtherSize : PySem.W.specialIn K (.builtin "object.__class__") "__get__" = some (some (.builtin "getset_descriptor.__get__")))
    (y7_OtherSize : PySem.W.takesIn K (.builtin "object.__class__") = some true)
    (y8_OtherSize : PySem.W.mroIn K C_OtherSize (.type "object") = some true)
    (hq_BadWeights : PySem.W.hasDictIn K C_BadWeights = true)
    (hty_BadWeights : PySem.W.typeIn K (.ref C_BadWeights) = some (.type "type"))
    (sb_BadBridge_BadWeights : PySem.W.subIn K (.ref C_BadBridge) (.ref C_BadWeights) = some false)
    (ne_BadBridge_BadWeights : C_BadBridge ≠ C_BadWeights)
    (hq_OtherSize : PySem.W.hasDictIn K C_OtherSize = true)
    (hty_OtherSize : PySem.W.typeIn K (.ref C_OtherSize) = some (.type "type"))
    (sb_BadBridge_OtherSize : PySem.W.subIn K (.ref C_BadBridge) (.ref C_OtherSize) = some false)
    (ne_BadBridge_OtherSize : C_BadBridge ≠ C_OtherSize)
    (sb_BadForce_BadWeights : PySem.W.subIn K (.ref C_BadForce) (.ref C_BadWeights) = some false)
    (ne_BadForce_BadWeights : C_BadForce ≠ C_BadWeights)
    (sb_BadForce_OtherSize : PySem.W.subIn K (.ref C_BadForce) (.ref C_OtherSize) = some false)
    (ne_BadForce_OtherSize : C_BadForce ≠ C_OtherSize)
    (sb_BadLoad_BadWeights : PySem.W.subIn K (.ref C_BadLoad) (.ref C_BadWeights) = some false)
    (ne_BadLoad_BadWeights : C_BadLoad ≠ C_BadWeights)
    (sb_BadLoad_OtherSize : PySem.W.subIn K (.ref C_BadLoad) (.ref C_OtherSize) = some false)
    (ne_BadLoad_OtherSize : C_BadLoad ≠ C_OtherSize)
    (sb_BadMotion_BadWeights : PySem.W.subIn K (.ref C_BadMotion) (.ref C_BadWeights) = some false)
    (ne_BadMotion_BadWeights : C_BadMotion ≠ C_BadWeights)
    (sb_BadMotion_OtherSize : PySem.W.subIn K (.ref C_BadMotion) (.ref C_OtherSize) = some false)
    (ne_BadMotion_OtherSize : C_BadMotion ≠ C_OtherSize)
    (sb_BadWeights_OtherSize : PySem.W.subIn K (.ref C_BadWeights) (.ref C_OtherSize) = some false)
    (ne_BadWeights_OtherSize : C_BadWeights ≠ C_OtherSize)
    (hq_Force : PySem.W.hasDictIn K C_Force = true)
    (hty_Force : PySem.W.typeIn K (.ref C_Force) = some (.type "type"))
    (sb_Bridge_Force : PySem.W.subIn K (.ref C_Bridge) (.ref C_Force) = some false)
    (ne_Bridge_Force : C_Bridge ≠ C_Force)
    (hq_Load : PySem.W.hasDictIn K C_Load = true)
    (hty_Load : PySem.W.typeIn K (.ref C_Load) = some (.type "type"))
    (sb_Bridge_Load : PySem.W.subIn K (.ref C_Bridge) (.ref C_Load) = some false)
    (ne_Bridge_Load : C_Bridge ≠ C_Load)
    (hq_Motion : PySem.W.hasDictIn K C_Motion = true)
    (hty_Motion : PySem.W.typeIn K (.ref C_Motion) = some (.type "type"))
    (sb_Bridge_Motion : PySem.W.subIn K (.ref C_Bridge) (.ref C_Motion) = some false)
    (ne_Bridge_Motion : C_Bridge ≠ C_Motion)
    (sb_Bridge_bool : PySem.W.subIn K (.ref C_Bridge) (.type "bool") = some false)
    (sb_Bridge_int : PySem.W.subIn K (.ref C_Bridge) (.type "int") = some false)
    (sb_Bridge_list : PySem.W.subIn K (.ref C_Bridge) (.type "list") = some false)
    (sb_Bridge_tuple : PySem.W.subIn K (.ref C_Bridge) (.type "tuple") = some false)
    (sb_Force_Load : PySem.W.subIn K (.ref C_Force) (.ref C_Load) = some false)
    (ne_Force_Load : C_Force ≠ C_Load)
    (sb_Force_Motion : PySem.W.subIn K (.ref C_Force) (.ref C_Motion) = some false)
    (ne_Force_Motion : C_Force ≠ C_Motion)
    (sb_Force_bool : PySem.W.subIn K (.ref C_Force) (.type "bool") = some false)
    (sb_Force_int : PySem.W.subIn K (.ref C_Force) (.type "int") = some false)
    (sb_Force_list : PySem.W.subIn K (.ref C_Force) (.type "list") = some false)
    (sb_Force_tuple : PySem.W.subIn K (.ref C_Force) (.type "tuple") = some false)
    (sb_Load_Force : PySem.W.subIn K (.ref C_Load) (.ref C_Force) = some false)
    (ne_Load_Force : C_Load ≠ C_Force)
    (sb_Load_Motion : PySem.W.subIn K (.ref C_Load) (.ref C_Motion) = some false)
    (ne_Load_Motion : C_Load ≠ C_Motion)
    (sb_Load_bool : PySem.W.subIn K (.ref C_Load) (.type "bool") = some false)
    (sb_Load_int : PySem.W.subIn K (.ref C_Load) (.type "int") = some false)
    (sb_Load_list : PySem.W.subIn K (.ref C_Load) (.type "list") = some false)
    (sb_Load_tuple : PySem.W.subIn K (.ref C_Load) (.type "tuple") = some false)
    (sb_Motion_Force : PySem.W.subIn K (.ref C_Motion) (.ref C_Force) = some false)
    (ne_Motion_Force : C_Motion ≠ C_Force)
    (sb_Motion_Load : PySem.W.subIn K (.ref C_Motion) (.ref C_Load) = some false)
    (ne_Motion_Load : C_Motion ≠ C_Load)
    (sb_Motion_bool : PySem.W.subIn K (.ref C_Motion) (.type "bool") = some false)
    (sb_Motion_int : PySem.W.subIn K (.ref C_Motion) (.type "int") = some false)
    (sb_Motion_list : PySem.W.subIn K (.ref C_Motion) (.type "list") = some false)
    (sb_Motion_tuple : PySem.W.subIn K (.ref C_Motion) (.type "tuple") = some false)
    (sb_NoCorner_BadWeights : PySem.W.subIn K (.ref C_NoCorner) (.ref C_BadWeights) = some false)
    (ne_NoCorner_BadWeights : C_NoCorner ≠ C_BadWeights)
    (sb_NoCorner_OtherSize : PySem.W.subIn K (.ref C_NoCorner) (.ref C_OtherSize) = some false)
    (ne_NoCorner_OtherSize : C_NoCorner ≠ C_OtherSize)
    (sb_NoneType_Force : PySem.W.subIn K (.type "NoneType") (.ref C_Force) = some false)
    (sb_NoneType_Load : PySem.W.subIn K (.type "NoneType") (.ref C_Load) = some false)
    (sb_NoneType_Motion : PySem.W.subIn K (.type "NoneType") (.ref C_Motion) = some false)
    (sb_OtherSize_BadWeights : PySem.W.subIn K (.ref C_OtherSize) (.ref C_BadWeights) = some false)
    (ne_OtherSize_BadWeights : C_OtherSize ≠ C_BadWeights)
    (sb_Weights_Force : PySem.W.subIn K (.ref C_Weights) (.ref C_Force) = some false)
    (ne_Weights_Force : C_Weights ≠ C_Force)
    (sb_Weights_Load : PySem.W.subIn K (.ref C_Weights) (.ref C_Load) = some false)
    (ne_Weights_Load : C_Weights ≠ C_Load)
    (sb_Weights_Motion : PySem.W.subIn K (.ref C_Weights) (.ref C_Motion) = some false)
    (ne_Weights_Motion : C_Weights ≠ C_Motion)
    (sb_Weights_bool : PySem.W.subIn K (.ref C_Weights) (.type "bool") = some false)
    (sb_Weights_int : PySem.W.subIn K (.ref C_Weights) (.type "int") = some false)
    (sb_Weights_list : PySem.W.subIn K (.ref C_Weights) (.type "list") = some false)
    (sb_Weights_tuple : PySem.W.subIn K (.ref C_Weights) (.type "tuple") = some false)
    (sb_bool_Force : PySem.W.subIn K (.type "bool") (.ref C_Force) = some false)
    (sb_bool_Load : PySem.W.subIn K (.type "bool") (.ref C_Load) = some false)
    (sb_bool_Motion : PySem.W.subIn K (.type "bool") (.ref C_Motion) = some false)
    (sb_int_Force : PySem.W.subIn K (.type "int") (.ref C_Force) = some false)
    (sb_int_Load : PySem.W.subIn K (.type "int") (.ref C_Load) = some false)
    (sb_int_Motion : PySem.W.subIn K (.type "int") (.ref C_Motion) = some false)
    (sb_list_Force : PySem.W.subIn K (.type "list") (.ref C_Force) = some false)
    (sb_list_Load : PySem.W.subIn K (.type "list") (.ref C_Load) = some false)
    (sb_list_Motion : PySem.W.subIn K (.type "list") (.ref C_Motion) = some false)
    (sb_str_Force : PySem.W.subIn K (.type "str") (.ref C_Force) = some false)
    (sb_str_Load : PySem.W.subIn K (.type "str") (.ref C_Load) = some false)
    (sb_str_Motion : PySem.W.subIn K (.type "str") (.ref C_Motion) = some false)
    (sb_tuple_Force : PySem.W.subIn K (.type "tuple") (.ref C_Force) = some false)
    (sb_tuple_Load : PySem.W.subIn K (.type "tuple") (.ref C_Load) = some false)
    (sb_tuple_Motion : PySem.W.subIn K (.type "tuple") (.ref C_Motion) = some false)
    (y5_Bridge : PySem.W.findIn K (.ref C_Bridge) "__class__" = some (some (.builtin "object.__class__")))
    (y6_Bridge : PySem.W.specialIn K (.builtin "object.__class__") "__get__" = some (some (.builtin "getset_descriptor.__get__")))
    (y7_Bridge : PySem.W.takesIn K (.builtin "object.__class__") = some true)
    (y8_Bridge : PySem.W.mroIn K C_Bridge (.type "object") = some true)
    (y5_Force : PySem.W.findIn K (.ref C_Force) "__class__" = some (some (.builtin "object.__class__")))
    (y6_Force : PySem.W.specialIn K (.builtin "object.__class__") "__get__" = some (some (.builtin "getset_descriptor.__get__")))
    (y7_Force : PySem.W.takesIn K (.builtin "object.__class__") = some true)
    (y8_Force : PySem.W.mroIn K C_Force (.type "object") = some true)
    (y5_Load : PySem.W.findIn K (.ref C_Load) "__class__" = some (some (.builtin "object.__class__")))
    (y6_Load : PySem.W.specialIn K (.builtin "object.__class__") "__get__" = some (some (.builtin "getset_descriptor.__get__")))
    (y7_Load : PySem.W.takesIn K (.builtin "object.__class__") = some true)
    (y8_Load : PySem.W.mroIn K C_Load (.type "object") = some true)
    (y5_Motion : PySem.W.findIn K (.ref C_Motion) "__class__" = some (some (.builtin "object.__class__")))
    (y6_Motion : PySem.W.specialIn K (.builtin "object.__class__") "__get__" = some (some (.builtin "getset_descriptor.__get__")))
    (y7_Motion : PySem.W.takesIn K (.builtin "object.__class__") = some true)
    (y8_Motion : PySem.W.mroIn K C_Motion (.type "object") = some true)
    (y5_Weights : PySem.W.findIn K (.ref C_Weights) "__class__" = some (some (.builtin "object.__class__")))
    (y6_Weights : PySem.W.specialIn K (.builtin "object.__class__") "__get__" = some (some (.builtin "getset_descriptor.__get__")))
    (y7_Weights : PySem.W.takesIn K (.builtin "object.__class__") = some true)
    (y8_Weights : PySem.W.mroIn K C_Weights (.type "object") = some true)
    (zg_MOST_CORNERS : PySem.W.nsIn K mainGlobals "MOST_CORNERS" = some (some (.int 18 tk_MOST_CORNERS)))
    (zg_LEAST_CORNERS : PySem.W.nsIn K mainGlobals "LEAST_CORNERS" = some (some (.int 4 tk_LEAST_CORNERS)))
    (zg_MOST_STONES : PySem.W.nsIn K mainGlobals "MOST_STONES" = some (some (.int 8 tk_MOST_STONES)))
    (zg_FARTHEST : PySem.W.nsIn K mainGlobals "FARTHEST" = some (some (.int 1000000 tk_FARTHEST)))
    (z_abs : PySem.W.nsIn K mainGlobals "abs" = some none)
    (z_all : PySem.W.nsIn K mainGlobals "all" = some none)
    (z_bool : PySem.W.nsIn K mainGlobals "bool" = some none)
    (z_enumerate : PySem.W.nsIn K mainGlobals "enumerate" = some none)
    (z_int : PySem.W.nsIn K mainGlobals "int" = some none)
    (z_isinstance : PySem.W.nsIn K mainGlobals "isinstance" = some none)
    (z_iter : PySem.W.nsIn K mainGlobals "iter" = some none)
    (z_len : PySem.W.nsIn K mainGlobals "len" = some none)
    (z_list : PySem.W.nsIn K mainGlobals "list" = some none)
    (z_range : PySem.W.nsIn K mainGlobals "range" = some none)
    (z_tuple : PySem.W.nsIn K mainGlobals "tuple" = some none)
    (z_zip : PySem.W.nsIn K mainGlobals "zip" = some none) :
    ∃ fd : FuncData, (∀ (s : Shared) (v : Value), BindsTo s fd ⟨[v], []⟩ [("_law_script", v)]) ∧ ∀ base : Heap, K.In base → base.Ns mainGlobals mg → FnG l.prog w K mg base (L2.CX l.prog w) 10 fa fd ["_law_script"] (spLaw K) := by
  have e : fa = f_law := by
    have z := hfa.symm.trans (PySem.W.mg_of X G a_law)
    cases z
    rfl
  rw [e]
  have T : Txt K mg ⟨f__law_take, (PySem.W.fnOf "_law_take" "_law_take" (defArgs s__law_take) (defBody s__law_take) (defScope s__law_take) .none kV__law_take dc__law_take pm__law_take an__law_take cd__law_take ct__law_take), f__law_of, (PySem.W.fnOf "_law_of" "_law_of" (defArgs s__law_of) (defBody s__law_of) (defScope s__law_of) .none kV__law_of dc__law_of pm__law_of an__law_of cd__law_of ct__law_of), f__law_bag, (PySem.W.fnOf "_law_bag" "_law_bag" (defArgs s__law_bag) (defBody s__law_bag) (defScope s__law_bag) .none kV__law_bag dc__law_bag pm__law_bag an__law_bag cd__law_bag ct__law_bag), f__law_joint, (PySem.W.fnOf "_law_joint" "_law_joint" (defArgs s__law_joint) (defBody s__law_joint) (defScope s__law_joint) .none kV__law_joint dc__law_joint pm__law_joint an__law_joint cd__law_joint ct__law_joint), f__law_joints, (PySem.W.fnOf "_law_joints" "_law_joints" (defArgs s__law_joints) (defBody s__law_joints) (defScope s__law_joints) .none kV__law_joints dc__law_joints pm__law_joints an__law_joints cd__law_joints ct__law_joints), f__law_numbers, (PySem.W.fnOf "_law_numbers" "_law_numbers" (defArgs s__law_numbers) (defBody s__law_numbers) (defScope s__law_numbers) .none kV__law_numbers dc__law_numbers pm__law_numbers an__law_numbers cd__law_numbers ct__law_numbers), f_is_row, (PySem.W.fnOf "is_row" "is_row" (defArgs s_is_row) (defBody s_is_row) (defScope s_is_row) .none kV_is_row dc_is_row pm_is_row an_is_row cd_is_row ct_is_row), f_is_number, (PySem.W.fnOf "is_number" "is_number" (defArgs s_is_number) (defBody s_is_number) (defScope s_is_number) .none kV_is_number dc_is_number pm_is_number an_is_number cd_is_number ct_is_number), f_is_count, (PySem.W.fnOf "is_count" "is_count" (defArgs s_is_count) (defBody s_is_count) (defScope s_is_count) .none kV_is_count dc_is_count pm_is_count an_is_count cd_is_count ct_is_count), f_Weights___init__, (PySem.W.fnOf "__init__" "Weights.__init__" (defArgs s_Weights___init__) (defBody s_Weights___init__) (defScope s_Weights___init__) .none kV_Weights___init__ dc_Weights___init__ pm_Weights___init__ an_Weights___init__ cd_Weights___init__ ct_Weights___init__), f_is_whole, (PySem.W.fnOf "is_whole" "is_whole" (defArgs s_is_whole) (defBody s_is_whole) (defScope s_is_whole) .none kV_is_whole dc_is_whole pm_is_whole an_is_whole cd_is_whole ct_is_whole), f_is_point, (PySem.W.fnOf "is_point" "is_point" (defArgs s_is_point) (defBody s_is_point) (defScope s_is_point) .none kV_is_point dc_is_point pm_is_point an_is_point cd_is_point ct_is_point), f__checked_joint, (PySem.W.fnOf "_checked_joint" "_checked_joint" (defArgs s__checked_joint) (defBody s__checked_joint) (defScope s__checked_joint) .none kV__checked_joint dc__checked_joint pm__checked_joint an__checked_joint cd__checked_joint ct__checked_joint), f__checked_joints, (PySem.W.fnOf "_checked_joints" "_checked_joints" (defArgs s__checked_joints) (defBody s__checked_joints) (defScope s__checked_joints) .none kV__checked_joints dc__checked_joints pm__checked_joints an__checked_joints cd__checked_joints ct__checked_joints), f__check_stones, (PySem.W.fnOf "_check_stones" "_check_stones" (defArgs s__check_stones) (defBody s__check_stones) (defScope s__check_stones) .none kV__check_stones dc__check_stones pm__check_stones an__check_stones cd__check_stones ct__check_stones), f_Load___init__, (PySem.W.fnOf "__init__" "Load.__init__" (defArgs s_Load___init__) (defBody s_Load___init__) (defScope s_Load___init__) .none kV_Load___init__ dc_Load___init__ pm_Load___init__ an_Load___init__ cd_Load___init__ ct_Load___init__), f_Force___init__, (PySem.W.fnOf "__init__" "Force.__init__" (defArgs s_Force___init__) (defBody s_Force___init__) (defScope s_Force___init__) .none kV_Force___init__ dc_Force___init__ pm_Force___init__ an_Force___init__ cd_Force___init__ ct_Force___init__), f_Force_none, (PySem.W.fnOf "none" "Force.none" (defArgs s_Force_none) (defBody s_Force_none) (defScope s_Force_none) .none kV_Force_none dc_Force_none pm_Force_none an_Force_none cd_Force_none ct_Force_none), P_Force_none, (.type "type"), f_Load_none, (PySem.W.fnOf "none" "Load.none" (defArgs s_Load_none) (defBody s_Load_none) (defScope s_Load_none) .none kV_Load_none dc_Load_none pm_Load_none an_Load_none cd_Load_none ct_Load_none), P_Load_none, (.type "type"), f_Load___len__, (PySem.W.fnOf "__len__" "Load.__len__" (defArgs s_Load___len__) (defBody s_Load___len__) (defScope s_Load___len__) .none kV_Load___len__ dc_Load___len__ pm_Load___len__ an_Load___len__ cd_Load___len__ ct_Load___len__), f__checked_own, (PySem.W.fnOf "_checked_own" "_checked_own" (defArgs s__checked_own) (defBody s__checked_own) (defScope s__checked_own) .none kV__checked_own dc__checked_own pm__checked_own an__checked_own cd__checked_own ct__checked_own), f_Bridge___init__, (PySem.W.fnOf "__init__" "Bridge.__init__" (defArgs s_Bridge___init__) (defBody s_Bridge___init__) (defScope s_Bridge___init__) (.ref T_Bridge___init__) kV_Bridge___init__ dc_Bridge___init__ pm_Bridge___init__ an_Bridge___init__ cd_Bridge___init__ ct_Bridge___init__), f_Weights___len__, (PySem.W.fnOf "__len__" "Weights.__len__" (defArgs s_Weights___len__) (defBody s_Weights___len__) (defScope s_Weights___len__) .none kV_Weights___len__ dc_Weights___len__ pm_Weights___len__ an_Weights___len__ cd_Weights___len__ ct_Weights___len__), f_check_weights, (PySem.W.fnOf "check_weights" "check_weights" (defArgs s_check_weights) (defBody s_check_weights) (defScope s_check_weights) .none kV_check_weights dc_check_weights pm_check_weights an_check_weights cd_check_weights ct_check_weights), f_Motion___init__, (PySem.W.fnOf "__init__" "Motion.__init__" (defArgs s_Motion___init__) (defBody s_Motion___init__) (defScope s_Motion___init__) .none kV_Motion___init__ dc_Motion___init__ pm_Motion___init__ an_Motion___init__ cd_Motion___init__ ct_Motion___init__), f_Motion_none, (PySem.W.fnOf "none" "Motion.none" (defArgs s_Motion_none) (defBody s_Motion_none) (defScope s_Motion_none) .none kV_Motion_none dc_Motion_none pm_Motion_none an_Motion_none cd_Motion_none ct_Motion_none), P_Motion_none, (.type "type"), f_Motion_turning, (PySem.W.fnOf "turning" "Motion.turning" (defArgs s_Motion_turning) (defBody s_Motion_turning) (defScope s_Motion_turning) (.ref T_Motion_turning) kV_Motion_turning dc_Motion_turning pm_Motion_turning an_Motion_turning cd_Motion_turning ct_Motion_turning), P_Motion_turning, (.type "type"), f_side_of, (PySem.W.fnOf "side_of" "side_of" (defArgs s_side_of) (defBody s_side_of) (defScope s_side_of) .none kV_side_of dc_side_of pm_side_of an_side_of cd_side_of ct_side_of), f_Weights___getitem__, (PySem.W.fnOf "__getitem__" "Weights.__getitem__" (defArgs s_Weights___getitem__) (defBody s_Weights___getitem__) (defScope s_Weights___getitem__) .none kV_Weights___getitem__ dc_Weights___getitem__ pm_Weights___getitem__ an_Weights___getitem__ cd_Weights___getitem__ ct_Weights___getitem__), f_Bridge_point, (PySem.W.fnOf "point" "Bridge.point" (defArgs s_Bridge_point) (defBody s_Bridge_point) (defScope s_Bridge_point) .none kV_Bridge_point dc_Bridge_point pm_Bridge_point an_Bridge_point cd_Bridge_point ct_Bridge_point), f_Motion___add__, (PySem.W.fnOf "__add__" "Motion.__add__" (defArgs s_Motion___add__) (defBody s_Motion___add__) (defScope s_Motion___add__) .none kV_Motion___add__ dc_Motion___add__ pm_Motion___add__ an_Motion___add__ cd_Motion___add__ ct_Motion___add__), f__motion_behind, (PySem.W.fnOf "_motion_behind" "_motion_behind" (defArgs s__motion_behind) (defBody s__motion_behind) (defScope s__motion_behind) .none kV__motion_behind dc__motion_behind pm__motion_behind an__motion_behind cd__motion_behind ct__motion_behind), f_stone_motions, (PySem.W.fnOf "stone_motions" "stone_motions" (defArgs s_stone_motions) (defBody s_stone_motions) (defScope s_stone_motions) .none kV_stone_motions dc_stone_motions pm_stone_motions an_stone_motions cd_stone_motions ct_stone_motions), f_motion_of, (PySem.W.fnOf "motion_of" "motion_of" (defArgs s_motion_of) (defBody s_motion_of) (defScope s_motion_of) .none kV_motion_of dc_motion_of pm_motion_of an_motion_of cd_motion_of ct_motion_of), f__law_plain, (PySem.W.fnOf "_law_plain" "_law_plain" (defArgs s__law_plain) (defBody s__law_plain) (defScope s__law_plain) .none kV__law_plain dc__law_plain pm__law_plain an__law_plain cd__law_plain ct__law_plain), f__law_corner, (PySem.W.fnOf "_law_corner" "_law_corner" (defArgs s__law_corner) (defBody s__law_corner) (defScope s__law_corner) .none kV__law_corner dc__law_corner pm__law_corner an__law_corner cd__law_corner ct__law_corner), f__law_motion, (PySem.W.fnOf "_law_motion" "_law_motion" (defArgs s__law_motion) (defBody s__law_motion) (defScope s__law_motion) .none kV__law_motion dc__law_motion pm__law_motion an__law_motion cd__law_motion ct__law_motion), f__law_at, (PySem.W.fnOf "_law_at" "_law_at" (defArgs s__law_at) (defBody s__law_at) (defScope s__law_at) .none kV__law_at dc__law_at pm__law_at an__law_at cd__law_at ct__law_at), f__law_joint_opens, (PySem.W.fnOf "_law_joint_opens" "_law_joint_opens" (defArgs s__law_joint_opens) (defBody s__law_joint_opens) (defScope s__law_joint_opens) .none kV__law_joint_opens dc__law_joint_opens pm__law_joint_opens an__law_joint_opens cd__law_joint_opens ct__law_joint_opens), f__law_all, (PySem.W.fnOf "_law_all" "_law_all" (defArgs s__law_all) (defBody s__law_all) (defScope s__law_all) .none kV__law_all dc__law_all pm__law_all an__law_all cd__law_all ct__law_all), f_Weights___mul__, (PySem.W.fnOf "__mul__" "Weights.__mul__" (defArgs s_Weights___mul__) (defBody s_Weights___mul__) (defScope s_Weights___mul__) .none kV_Weights___mul__ dc_Weights___mul__ pm_Weights___mul__ an_Weights___mul__ cd_Weights___mul__ ct_Weights___mul__), f_Weights___add__, (PySem.W.fnOf "__add__" "Weights.__add__" (defArgs s_Weights___add__) (defBody s_Weights___add__) (defScope s_Weights___add__) .none kV_Weights___add__ dc_Weights___add__ pm_Weights___add__ an_Weights___add__ cd_Weights___add__ ct_Weights___add__), f_Weights___iter__, (PySem.W.fnOf "__iter__" "Weights.__iter__" (defArgs s_Weights___iter__) (defBody s_Weights___iter__) (defScope s_Weights___iter__) .none kV_Weights___iter__ dc_Weights___iter__ pm_Weights___iter__ an_Weights___iter__ cd_Weights___iter__ ct_Weights___iter__), f__law_other_size, (PySem.W.fnOf "_law_other_size" "_law_other_size" (defArgs s__law_other_size) (defBody s__law_other_size) (defScope s__law_other_size) .none kV__law_other_size dc__law_other_size pm__law_other_size an__law_other_size cd__law_other_size ct__law_other_size), f_law, (PySem.W.fnOf "law" "law" (defArgs s_law) (defBody s_law) (defScope s_law) .none kV_law dc_law pm_law an_law cd_law ct_law), C_BridgeError, C_BadForce, I_BadForce, (PySem.W.fnOf "__init__" "BadForce.__init__" (defArgs si_BadForce) (defBody si_BadForce) (defScope si_BadForce) .none kVi_BadForce dci_BadForce pmi_BadForce ani_BadForce cdi_BadForce cti_BadForce), C_BadLoad, I_BadLoad, (PySem.W.fnOf "__init__" "BadLoad.__init__" (defArgs si_BadLoad) (defBody si_BadLoad) (defScope si_BadLoad) .none kVi_BadLoad dci_BadLoad pmi_BadLoad ani_BadLoad cdi_BadLoad cti_BadLoad), C_OtherSize, I_OtherSize, (PySem.W.fnOf "__init__" "OtherSize.__init__" (defArgs si_OtherSize) (defBody si_OtherSize) (defScope si_OtherSize) .none kVi_OtherSize dci_OtherSize pmi_OtherSize ani_OtherSize cdi_OtherSize cti_OtherSize), C_NoStone, C_NoCorner, I_NoCorner, (PySem.W.fnOf "__init__" "NoCorner.__init__" (defArgs si_NoCorner) (defBody si_NoCorner) (defScope si_NoCorner) .none kVi_NoCorner dci_NoCorner pmi_NoCorner ani_NoCorner cdi_NoCorner cti_NoCorner), C_BadBridge, I_BadBridge, (PySem.W.fnOf "__init__" "BadBridge.__init__" (defArgs si_BadBridge) (defBody si_BadBridge) (defScope si_BadBridge) .none kVi_BadBridge dci_BadBridge pmi_BadBridge ani_BadBridge cdi_BadBridge cti_BadBridge), C_NoPart, C_BadMotion, I_BadMotion, (PySem.W.fnOf "__init__" "BadMotion.__init__" (defArgs si_BadMotion) (defBody si_BadMotion) (defScope si_BadMotion) .none kVi_BadMotion dci_BadMotion pmi_BadMotion ani_BadMotion cdi_BadMotion cti_BadMotion), C_BadWeights, I_BadWeights, (PySem.W.fnOf "__init__" "BadWeights.__init__" (defArgs si_BadWeights) (defBody si_BadWeights) (defScope si_BadWeights) .none kVi_BadWeights dci_BadWeights pmi_BadWeights ani_BadWeights cdi_BadWeights cti_BadWeights), C_Force, C_Load, C_Bridge, C_Motion, C_Weights, tk_MOST_CORNERS, tk_LEAST_CORNERS, tk_MOST_STONES, tk_FARTHEST⟩ := {
    t__law_take := fund_mk l__law_take c__law_take k__law_take
    m__law_take := PySem.W.mg_of X G a__law_take
    b__law_take := (fund_mk l__law_take c__law_take k__law_take).bindsN (ps := ["_law_bag_here", "_law_many"]) fun _ _ _ _ _ _ us hl => match us, hl with | [_, _], _ => rfl
    t__law_of := fund_mk l__law_of c__law_of k__law_of
    m__law_of := PySem.W.mg_of X G a__law_of
    b__law_of := (fund_mk l__law_of c__law_of k__law_of).bindsN (ps := ["_law_bag_here", "_law_some"]) fun _ _ _ _ _ _ us hl => match us, hl with | [_, _], _ => rfl
    t__law_bag := fund_mk l__law_bag c__law_bag k__law_bag
    m__law_bag := PySem.W.mg_of X G a__law_bag
    b__law_bag := (fund_mk l__law_bag c__law_bag k__law_bag).bindsN (ps := ["_law_script", "_law_at_here"]) fun _ _ _ _ _ _ us hl => match us, hl with | [_, _], _ => rfl
    t__law_joint := fund_mk l__law_joint c__law_joint k__law_joint
    m__law_joint := PySem.W.mg_of X G a__law_joint
    b__law_joint := (fund_mk l__law_joint c__law_joint k__law_joint).bindsN (ps := ["_law_bag_here", "_law_x", "_law_y", "_law_kind", "_law_slope"]) fun _ _ _ _ _ _ us hl => match us, hl with | [_, _, _, _, _], _ => rfl
    t__law_joints := fund_mk l__law_joints c__law_joints k__law_joints
    m__law_joints := PySem.W.mg_of X G a__law_joints
    b__law_joints := (fund_mk l__law_joints c__law_joints k__law_joints).bindsN (ps := ["_law_bag_here", "_law_most"]) fun _ _ _ _ _ _ us hl => match us, hl with | [_, _], _ => rfl
    t__law_numbers := fund_mk l__law_numbers c__law_numbers k__law_numbers
    m__law_numbers := PySem.W.mg_of X G a__law_numbers
    b__law_numbers := (fund_mk l__law_numbers c__law_numbers k__law_numbers).bindsN (ps := ["_law_bag_here", "_law_count"]) fun _ _ _ _ _ _ us hl => match us, hl with | [_, _], _ => rfl
    t_is_row := fund_mk l_is_row c_is_row k_is_row
    m_is_row := PySem.W.mg_of X G a_is_row
    b_is_row := (fund_mk l_is_row c_is_row k_is_row).bindsN (ps := ["thing", "least", "most"]) fun _ _ _ _ _ _ us hl => match us, hl with | [_, _, _], _ => rfl
    t_is_number := fund_mk l_is_number c_is_number k_is_number
    m_is_number := PySem.W.mg_of X G a_is_number
    b_is_number := (fund_mk l_is_number c_is_number k_is_number).bindsN (ps := ["thing"]) fun _ _ _ _ _ _ us hl => match us, hl with | [_], _ => rfl
    t_is_count := fund_mk l_is_count c_is_count k_is_count
    m_is_count := PySem.W.mg_of X G a_is_count
    b_is_count := (fund_mk l_is_count c_is_count k_is_count).bindsN (ps := ["thing"]) fun _ _ _ _ _ _ us hl => match us, hl with | [_], _ => rfl
    t_Weights___init__ := fund_mk l_Weights___init__ c_Weights___init__ k_Weights___init__
    b_Weights___init__ := (fund_mk l_Weights___init__ c_Weights___init__ k_Weights___init__).bindsN (ps := ["self", "numbers"]) fun _ _ _ _ _ _ us hl => match us, hl with | [_, _], _ => rfl
    t_is_whole := fund_mk l_is_whole c_is_whole k_is_whole
    m_is_whole := PySem.W.mg_of X G a_is_whole
    b_is_whole := (fund_mk l_is_whole c_is_whole k_is_whole).bindsN (ps := ["thing", "low", "high"]) fun _ _ _ _ _ _ us hl => match us, hl with | [_, _, _], _ => rfl
    t_is_point := fund_mk l_is_point c_is_point k_is_point
    m_is_point := PySem.W.mg_of X G a_is_point
    b_is_point := (fund_mk l_is_point c_is_point k_is_point).bindsN (ps := ["thing"]) fun _ _ _ _ _ _ us hl => match us, hl with | [_], _ => rfl
    t__checked_joint := fund_mk l__checked_joint c__checked_joint k__checked_joint
    m__checked_joint := PySem.W.mg_of X G a__checked_joint
    b__checked_joint := (fund_mk l__checked_joint c__checked_joint k__checked_joint).bindsN (ps := ["index", "joint"]) fun _ _ _ _ _ _ us hl => match us, hl with | [_, _], _ => rfl
    t__checked_joints := fund_mk l__checked_joints c__checked_joints k__checked_joints
    m__checked_joints := PySem.W.mg_of X G a__checked_joints
    b__checked_joints := (fund_mk l__checked_joints c__checked_joints k__checked_joints).bindsN (ps := ["joints"]) fun _ _ _ _ _ _ us hl => match us, hl with | [_], _ => rfl
    t__check_stones := fund_mk l__check_stones c__check_stones k__check_stones
    m__check_stones := PySem.W.mg_of X G a__check_stones
    b__check_stones := (fund_mk l__check_stones c__check_stones k__check_stones).bindsN (ps := ["stones"]) fun _ _ _ _ _ _ us hl => match us, hl with | [_], _ => rfl
    t_Load___init__ := fund_mk l_Load___init__ c_Load___init__ k_Load___init__
    b_Load___init__ := (fund_mk l_Load___init__ c_Load___init__ k_Load___init__).bindsN (ps := ["self", "forces"]) fun _ _ _ _ _ _ us hl => match us, hl with | [_, _], _ => rfl
    t_Force___init__ := fund_mk l_Force___init__ c_Force___init__ k_Force___init__
    b_Force___init__ := (fund_mk l_Force___init__ c_Force___init__ k_Force___init__).bindsN (ps := ["self", "across", "up", "moment"]) fun _ _ _ _ _ _ us hl => match us, hl with | [_, _, _, _], _ => rfl
    t_Force_none := fund_mk l_Force_none c_Force_none k_Force_none
    b_Force_none := (fund_mk l_Force_none c_Force_none k_Force_none).bindsN (ps := ["cls"]) fun _ _ _ _ _ _ us hl => match us, hl with | [_], _ => rfl
    t_Load_none := fund_mk l_Load_none c_Load_none k_Load_none
    b_Load_none := (fund_mk l_Load_none c_Load_none k_Load_none).bindsN (ps := ["cls", "stones"]) fun _ _ _ _ _ _ us hl => match us, hl with | [_, _], _ => rfl
    t_Load___len__ := fund_mk l_Load___len__ c_Load___len__ k_Load___len__
    b_Load___len__ := (fund_mk l_Load___len__ c_Load___len__ k_Load___len__).bindsN (ps := ["self"]) fun _ _ _ _ _ _ us hl => match us, hl with | [_], _ => rfl
    t__checked_own := fund_mk l__checked_own c__checked_own k__checked_own
    m__checked_own := PySem.W.mg_of X G a__checked_own
    b__checked_own := (fund_mk l__checked_own c__checked_own k__checked_own).bindsN (ps := ["own", "stones"]) fun _ _ _ _ _ _ us hl => match us, hl with | [_, _], _ => rfl
    t_Bridge___init__ := fund_mk1 (its := [.none]) l_Bridge___init__ c_Bridge___init__ k_Bridge___init__ lt_Bridge___init__ (show Vals [.non] [.none] from .cons rfl .nil) (by simp)
    b_Bridge___init__ := binds_full (FunD.binds1 (ps := ["self", "joints", "own"]) (fund_mk1 (its := [.none]) l_Bridge___init__ c_Bridge___init__ k_Bridge___init__ lt_Bridge___init__ (show Vals [.non] [.none] from .cons rfl .nil) (by simp)) 3 1 (by simp) rfl fun _ _ _ _ _ _ _ us its hl h2 => match us, hl, its, h2 with | [_, _, _], _, [_], _ => ⟨_, rfl, rfl⟩) rfl
    bd1_Bridge___init__ := FunD.binds1 (ps := ["self", "joints", "own"]) (fund_mk1 (its := [.none]) l_Bridge___init__ c_Bridge___init__ k_Bridge___init__ lt_Bridge___init__ (show Vals [.non] [.none] from .cons rfl .nil) (by simp)) 2 0 (by simp) rfl fun _ _ _ _ _ _ _ us its hl h2 => match us, hl, its, h2 with | [_, _], _, [_], _ => ⟨_, rfl, rfl⟩
    t_Weights___len__ := fund_mk l_Weights___len__ c_Weights___len__ k_Weights___len__
    b_Weights___len__ := (fund_mk l_Weights___len__ c_Weights___len__ k_Weights___len__).bindsN (ps := ["self"]) fun _ _ _ _ _ _ us hl => match us, hl with | [_], _ => rfl
    t_check_weights := fund_mk l_check_weights c_check_weights k_check_weights
    m_check_weights := PySem.W.mg_of X G a_check_weights
    b_check_weights := (fund_mk l_check_weights c_check_weights k_check_weights).bindsN (ps := ["bridge", "weights"]) fun _ _ _ _ _ _ us hl => match us, hl with | [_, _], _ => rfl
    t_Motion___init__ := fund_mk l_Motion___init__ c_Motion___init__ k_Motion___init__
    b_Motion___init__ := (fund_mk l_Motion___init__ c_Motion___init__ k_Motion___init__).bindsN (ps := ["self", "turn", "across", "up"]) fun _ _ _ _ _ _ us hl => match us, hl with | [_, _, _, _], _ => rfl
    t_Motion_none := fund_mk l_Motion_none c_Motion_none k_Motion_none
    b_Motion_none := (fund_mk l_Motion_none c_Motion_none k_Motion_none).bindsN (ps := ["cls"]) fun _ _ _ _ _ _ us hl => match us, hl with | [_], _ => rfl
    t_Motion_turning := fund_mk1 (its := [.int 1 ttk0_Motion_turning]) l_Motion_turning c_Motion_turning k_Motion_turning lt_Motion_turning (show Vals [.int 1] [.int 1 ttk0_Motion_turning] from .cons ⟨_, rfl⟩ .nil) (by simp)
    b_Motion_turning := binds_full (FunD.binds1 (ps := ["cls", "point", "turn"]) (fund_mk1 (its := [.int 1 ttk0_Motion_turning]) l_Motion_turning c_Motion_turning k_Motion_turning lt_Motion_turning (show Vals [.int 1] [.int 1 ttk0_Motion_turning] from .cons ⟨_, rfl⟩ .nil) (by simp)) 3 1 (by simp) rfl fun _ _ _ _ _ _ _ us its hl h2 => match us, hl, its, h2 with | [_, _, _], _, [_], _ => ⟨_, rfl, rfl⟩) rfl
    t_side_of := fund_mk l_side_of c_side_of k_side_of
    m_side_of := PySem.W.mg_of X G a_side_of
    b_side_of := (fund_mk l_side_of c_side_of k_side_of).bindsN (ps := ["corner"]) fun _ _ _ _ _ _ us hl => match us, hl with | [_], _ => rfl
    t_Weights___getitem__ := fund_mk l_Weights___getitem__ c_Weights___getitem__ k_Weights___getitem__
    b_Weights___getitem__ := (fund_mk l_Weights___getitem__ c_Weights___getitem__ k_Weights___getitem__).bindsN (ps := ["self", "at"]) fun _ _ _ _ _ _ us hl => match us, hl with | [_, _], _ => rfl
    t_Bridge_point := fund_mk l_Bridge_point c_Bridge_point k_Bridge_point
    b_Bridge_point := (fund_mk l_Bridge_point c_Bridge_point k_Bridge_point).bindsN (ps := ["self", "corner"]) fun _ _ _ _ _ _ us hl => match us, hl with | [_, _], _ => rfl
    t_Motion___add__ := fund_mk l_Motion___add__ c_Motion___add__ k_Motion___add__
    b_Motion___add__ := (fund_mk l_Motion___add__ c_Motion___add__ k_Motion___add__).bindsN (ps := ["self", "other"]) fun _ _ _ _ _ _ us hl => match us, hl with | [_, _], _ => rfl
    t__motion_behind := fund_mk l__motion_behind c__motion_behind k__motion_behind
    m__motion_behind := PySem.W.mg_of X G a__motion_behind
    b__motion_behind := (fund_mk l__motion_behind c__motion_behind k__motion_behind).bindsN (ps := ["bridge", "weights", "first"]) fun _ _ _ _ _ _ us hl => match us, hl with | [_, _, _], _ => rfl
    t_stone_motions := fund_mk l_stone_motions c_stone_motions k_stone_motions
    m_stone_motions := PySem.W.mg_of X G a_stone_motions
    b_stone_motions := (fund_mk l_stone_motions c_stone_motions k_stone_motions).bindsN (ps := ["bridge", "weights"]) fun _ _ _ _ _ _ us hl => match us, hl with | [_, _], _ => rfl
    t_motion_of := fund_mk l_motion_of c_motion_of k_motion_of
    m_motion_of := PySem.W.mg_of X G a_motion_of
    b_motion_of := (fund_mk l_motion_of c_motion_of k_motion_of).bindsN (ps := ["bridge", "weights"]) fun _ _ _ _ _ _ us hl => match us, hl with | [_, _], _ => rfl
    t__law_plain := fund_mk l__law_plain c__law_plain k__law_plain
    m__law_plain := PySem.W.mg_of X G a__law_plain
    b__law_plain := (fund_mk l__law_plain c__law_plain k__law_plain).bindsN (ps := ["_law_motion_here"]) fun _ _ _ _ _ _ us hl => match us, hl with | [_], _ => rfl
    t__law_corner := fund_mk l__law_corner c__law_corner k__law_corner
    m__law_corner := PySem.W.mg_of X G a__law_corner
    b__law_corner := (fund_mk l__law_corner c__law_corner k__law_corner).bindsN (ps := ["_law_joints_here", "_law_corner_here"]) fun _ _ _ _ _ _ us hl => match us, hl with | [_, _], _ => rfl
    t__law_motion := fund_mk l__law_motion c__law_motion k__law_motion
    m__law_motion := PySem.W.mg_of X G a__law_motion
    b__law_motion := (fund_mk l__law_motion c__law_motion k__law_motion).bindsN (ps := ["_law_joints_here", "_law_numbers_here"]) fun _ _ _ _ _ _ us hl => match us, hl with | [_, _], _ => rfl
    t__law_at := fund_mk l__law_at c__law_at k__law_at
    m__law_at := PySem.W.mg_of X G a__law_at
    b__law_at := (fund_mk l__law_at c__law_at k__law_at).bindsN (ps := ["_law_motion_here", "_law_point"]) fun _ _ _ _ _ _ us hl => match us, hl with | [_, _], _ => rfl
    t__law_joint_opens := fund_mk l__law_joint_opens c__law_joint_opens k__law_joint_opens
    m__law_joint_opens := PySem.W.mg_of X G a__law_joint_opens
    b__law_joint_opens := (fund_mk l__law_joint_opens c__law_joint_opens k__law_joint_opens).bindsN (ps := ["_law_joints_here", "_law_joint_here", "_law_numbers_here", "_law_before", "_law_behind"]) fun _ _ _ _ _ _ us hl => match us, hl with | [_, _, _, _, _], _ => rfl
    t__law_all := fund_mk l__law_all c__law_all k__law_all
    m__law_all := PySem.W.mg_of X G a__law_all
    b__law_all := (fund_mk l__law_all c__law_all k__law_all).bindsN (ps := ["_law_joints_here", "_law_numbers_here", "_law_told", "_law_ground"]) fun _ _ _ _ _ _ us hl => match us, hl with | [_, _, _, _], _ => rfl
    t_Weights___mul__ := fund_mk l_Weights___mul__ c_Weights___mul__ k_Weights___mul__
    b_Weights___mul__ := (fund_mk l_Weights___mul__ c_Weights___mul__ k_Weights___mul__).bindsN (ps := ["self", "other"]) fun _ _ _ _ _ _ us hl => match us, hl with | [_, _], _ => rfl
    t_Weights___add__ := fund_mk l_Weights___add__ c_Weights___add__ k_Weights___add__
    b_Weights___add__ := (fund_mk l_Weights___add__ c_Weights___add__ k_Weights___add__).bindsN (ps := ["self", "other"]) fun _ _ _ _ _ _ us hl => match us, hl with | [_, _], _ => rfl
    t_Weights___iter__ := fund_mk l_Weights___iter__ c_Weights___iter__ k_Weights___iter__
    b_Weights___iter__ := (fund_mk l_Weights___iter__ c_Weights___iter__ k_Weights___iter__).bindsN (ps := ["self"]) fun _ _ _ _ _ _ us hl => match us, hl with | [_], _ => rfl
    t__law_other_size := fund_mk l__law_other_size c__law_other_size k__law_other_size
    m__law_other_size := PySem.W.mg_of X G a__law_other_size
    b__law_other_size := (fund_mk l__law_other_size c__law_other_size k__law_other_size).bindsN (ps := ["_law_bridge", "_law_weights"]) fun _ _ _ _ _ _ us hl => match us, hl with | [_, _], _ => rfl
    t_law := fund_mk l_law c_law k_law
    m_law := PySem.W.mg_of X G a_law
    b_law := (fund_mk l_law c_law k_law).bindsN (ps := ["_law_script"]) fun _ _ _ _ _ _ us hl => match us, hl with | [_], _ => rfl
    m_BridgeError := PySem.W.mg_of X G ac_BridgeError
    m_BadForce := PySem.W.mg_of X G ac_BadForce
    m_BadLoad := PySem.W.mg_of X G ac_BadLoad
    m_OtherSize := PySem.W.mg_of X G ac_OtherSize
    m_NoStone := PySem.W.mg_of X G ac_NoStone
    m_NoCorner := PySem.W.mg_of X G ac_NoCorner
    m_BadBridge := PySem.W.mg_of X G ac_BadBridge
    m_NoPart := PySem.W.mg_of X G ac_NoPart
    m_BadMotion := PySem.W.mg_of X G ac_BadMotion
    m_BadWeights := PySem.W.mg_of X G ac_BadWeights
    m_Force := PySem.W.mg_of X G ac_Force
    m_Load := PySem.W.mg_of X G ac_Load
    m_Bridge := PySem.W.mg_of X G ac_Bridge
    m_Motion := PySem.W.mg_of X G ac_Motion
    m_Weights := PySem.W.mg_of X G ac_Weights
    cl_Force := ⟨pg_Force, hd_Force, po_Force, sa_Force⟩
    na_Force_across := na_Force_across
    na_Force_up := na_Force_up
    na_Force_moment := na_Force_moment
    cl_Load := ⟨pg_Load, hd_Load, po_Load, sa_Load⟩
    na_Load_forces := na_Load_forces
    cl_Bridge := ⟨pg_Bridge, hd_Bridge, po_Bridge, sa_Bridge⟩
    na_Bridge_joints := na_Bridge_joints
    na_Bridge_stones := na_Bridge_stones
    na_Bridge_corner_count := na_Bridge_corner_count
    na_Bridge_own := na_Bridge_own
    cl_Motion := ⟨pg_Motion, hd_Motion, po_Motion, sa_Motion⟩
    na_Motion_across := na_Motion_across
    na_Motion_up := na_Motion_up
    na_Motion_turn := na_Motion_turn
    cl_Weights := ⟨pg_Weights, hd_Weights, po_Weights, sa_Weights⟩
    na_Weights_numbers := na_Weights_numbers
    mk_Weights := ⟨⟨mk_Weights, fi_Weights, fn_Weights___init__, kc_Weights⟩, PySem.W.mg_of X G ac_Weights, ((fund_mk l_Weights___init__ c_Weights___init__ k_Weights___init__).bindsN (ps := ["self", "numbers"]) fun _ _ _ _ _ _ us hl => match us, hl with | [_, _], _ => rfl)⟩
    mk_Load := ⟨⟨mk_Load, fi_Load, fn_Load___init__, kc_Load⟩, PySem.W.mg_of X G ac_Load, ((fund_mk l_Load___init__ c_Load___init__ k_Load___init__).bindsN (ps := ["self", "forces"]) fun _ _ _ _ _ _ us hl => match us, hl with | [_, _], _ => rfl)⟩
    mk_Force := ⟨⟨mk_Force, fi_Force, fn_Force___init__, kc_Force⟩, PySem.W.mg_of X G ac_Force, ((fund_mk l_Force___init__ c_Force___init__ k_Force___init__).bindsN (ps := ["self", "across", "up", "moment"]) fun _ _ _ _ _ _ us hl => match us, hl with | [_, _, _, _], _ => rfl)⟩
    mk_Bridge := ⟨⟨mk_Bridge, fi_Bridge, fn_Bridge___init__, kc_Bridge⟩, PySem.W.mg_of X G ac_Bridge, (binds_full (FunD.binds1 (ps := ["self", "joints", "own"]) (fund_mk1 (its := [.none]) l_Bridge___init__ c_Bridge___init__ k_Bridge___init__ lt_Bridge___init__ (show Vals [.non] [.none] from .cons rfl .nil) (by simp)) 3 1 (by simp) rfl fun _ _ _ _ _ _ _ us its hl h2 => match us, hl, its, h2 with | [_, _, _], _, [_], _ => ⟨_, rfl, rfl⟩) rfl)⟩
    mk1_Bridge := ⟨⟨mk_Bridge, fi_Bridge, fn_Bridge___init__, kc_Bridge⟩, PySem.W.mg_of X G ac_Bridge, And.right (Exists.choose_spec (p := fun dl => Vals _ dl ∧ L2.Binds _ _ _ dl) _)⟩
    mk_Motion := ⟨⟨mk_Motion, fi_Motion, fn_Motion___init__, kc_Motion⟩, PySem.W.mg_of X G ac_Motion, ((fund_mk l_Motion___init__ c_Motion___init__ k_Motion___init__).bindsN (ps := ["self", "turn", "across", "up"]) fun _ _ _ _ _ _ us hl => match us, hl with | [_, _, _, _], _ => rfl)⟩
    op_Motion___add__ := ⟨sf_Motion, of_Motion___add__, fn_Motion___add__, ((fund_mk l_Motion___add__ c_Motion___add__ k_Motion___add__).bindsN (ps := ["self", "other"]) fun _ _ _ _ _ _ us hl => match us, hl with | [_, _], _ => rfl)⟩
    op_Weights___mul__ := ⟨sf_Weights, of_Weights___mul__, fn_Weights___mul__, ((fund_mk l_Weights___mul__ c_Weights___mul__ k_Weights___mul__).bindsN (ps := ["self", "other"]) fun _ _ _ _ _ _ us hl => match us, hl with | [_, _], _ => rfl)⟩
    op_Weights___add__ := ⟨sf_Weights, of_Weights___add__, fn_Weights___add__, ((fund_mk l_Weights___add__ c_Weights___add__ k_Weights___add__).bindsN (ps := ["self", "other"]) fun _ _ _ _ _ _ us hl => match us, hl with | [_, _], _ => rfl)⟩
    oi_Weights___mul__ := ⟨or_Weights___mul__, ⟨_, o1_Weights___mul__⟩, ⟨_, o2_Weights___mul__⟩, o3_Weights___mul__⟩
    ow_Load___len__ := ⟨of_Load___len__, fn_Load___len__, ci_Load___len__, ((fund_mk l_Load___len__ c_Load___len__ k_Load___len__).bindsN (ps := ["self"]) fun _ _ _ _ _ _ us hl => match us, hl with | [_], _ => rfl)⟩
    ow_Weights___len__ := ⟨of_Weights___len__, fn_Weights___len__, ci_Weights___len__, ((fund_mk l_Weights___len__ c_Weights___len__ k_Weights___len__).bindsN (ps := ["self"]) fun _ _ _ _ _ _ us hl => match us, hl with | [_], _ => rfl)⟩
    ow_Weights___getitem__ := ⟨of_Weights___getitem__, fn_Weights___getitem__, ci_Weights___getitem__, ((fund_mk l_Weights___getitem__ c_Weights___getitem__ k_Weights___getitem__).bindsN (ps := ["self", "at"]) fun _ _ _ _ _ _ us hl => match us, hl with | [_, _], _ => rfl)⟩
    ow_Weights___iter__ := ⟨of_Weights___iter__, fn_Weights___iter__, ci_Weights___iter__, ((fund_mk l_Weights___iter__ c_Weights___iter__ k_Weights___iter__).bindsN (ps := ["self"]) fun _ _ _ _ _ _ us hl => match us, hl with | [_], _ => rfl)⟩
    cm_Force_none := ⟨⟨cr_Force_none, cg_Force_none⟩, ⟨cf_Force_none, ⟨_, cc_Force_none⟩, ci_Force_none⟩, ((fund_mk l_Force_none c_Force_none k_Force_none).bindsN (ps := ["cls"]) fun _ _ _ _ _ _ us hl => match us, hl with | [_], _ => rfl)⟩
    cm_Load_none := ⟨⟨cr_Load_none, cg_Load_none⟩, ⟨cf_Load_none, ⟨_, cc_Load_none⟩, ci_Load_none⟩, ((fund_mk l_Load_none c_Load_none k_Load_none).bindsN (ps := ["cls", "stones"]) fun _ _ _ _ _ _ us hl => match us, hl with | [_, _], _ => rfl)⟩
    cm_Motion_none := ⟨⟨cr_Motion_none, cg_Motion_none⟩, ⟨cf_Motion_none, ⟨_, cc_Motion_none⟩, ci_Motion_none⟩, ((fund_mk l_Motion_none c_Motion_none k_Motion_none).bindsN (ps := ["cls"]) fun _ _ _ _ _ _ us hl => match us, hl with | [_], _ => rfl)⟩
    cm_Motion_turning := ⟨⟨cr_Motion_turning, cg_Motion_turning⟩, ⟨cf_Motion_turning, ⟨_, cc_Motion_turning⟩, ci_Motion_turning⟩, (binds_full (FunD.binds1 (ps := ["cls", "point", "turn"]) (fund_mk1 (its := [.int 1 ttk0_Motion_turning]) l_Motion_turning c_Motion_turning k_Motion_turning lt_Motion_turning (show Vals [.int 1] [.int 1 ttk0_Motion_turning] from .cons ⟨_, rfl⟩ .nil) (by simp)) 3 1 (by simp) rfl fun _ _ _ _ _ _ _ us its hl h2 => match us, hl, its, h2 with | [_, _, _], _, [_], _ => ⟨_, rfl, rfl⟩) rfl)⟩
    mt_Bridge_point := ⟨⟨pg_Bridge, hd_Bridge, po_Bridge, sa_Bridge⟩, ⟨mf_Bridge_point, fn_Bridge_point, k_Bridge_point⟩, ((fund_mk l_Bridge_point c_Bridge_point k_Bridge_point).bindsN (ps := ["self", "corner"]) fun _ _ _ _ _ _ us hl => match us, hl with | [_, _], _ => rfl)⟩
    e_BadForce := ⟨⟨⟨_, _, _, _, _, _, _, _, _, _, _, _, _, _, _, x1_BadForce, x2_BadForce⟩, x3_BadForce, x4_BadForce, x5_BadForce, x6_BadForce⟩, x7_BadForce, x8_BadForce, fun_mk (st := si_BadForce) li_BadForce cdi_BadForce_ ki_BadForce, (fun_mk (st := si_BadForce) li_BadForce cdi_BadForce_ ki_BadForce).binds (ps := ["self", "what"]) fun _ _ _ _ _ _ us hl => match us, hl with | [_, _], _ => rfl, PySem.W.mg_of X G ac_BadForce⟩
    xn_BadForce_what := xn_BadForce_what
    e_BadLoad := ⟨⟨⟨_, _, _, _, _, _, _, _, _, _, _, _, _, _, _, x1_BadLoad, x2_BadLoad⟩, x3_BadLoad, x4_BadLoad, x5_BadLoad, x6_BadLoad⟩, x7_BadLoad, x8_BadLoad, fun_mk (st := si_BadLoad) li_BadLoad cdi_BadLoad_ ki_BadLoad, (fun_mk (st := si_BadLoad) li_BadLoad cdi_BadLoad_ ki_BadLoad).binds (ps := ["self", "what"]) fun _ _ _ _ _ _ us hl => match us, hl with | [_, _], _ => rfl, PySem.W.mg_of X G ac_BadLoad⟩
    xn_BadLoad_what := xn_BadLoad_what
    e_OtherSize := ⟨⟨⟨_, _, _, _, _, _, _, _, _, _, _, _, _, _, _, x1_OtherSize, x2_OtherSize⟩, x3_OtherSize, x4_OtherSize, x5_OtherSize, x6_OtherSize⟩, x7_OtherSize, x8_OtherSize, fun_mk (st := si_OtherSize) li_OtherSize cdi_OtherSize_ ki_OtherSize, (fun_mk (st := si_OtherSize) li_OtherSize cdi_OtherSize_ ki_OtherSize).binds (ps := ["self"]) fun _ _ _ _ _ _ us hl => match us, hl with | [_], _ => rfl, PySem.W.mg_of X G ac_OtherSize⟩
    e_NoCorner := ⟨⟨⟨_, _, _, _, _, _, _, _, _, _, _, _, _, _, _, x1_NoCorner, x2_NoCorner⟩, x3_NoCorner, x4_NoCorner, x5_NoCorner, x6_NoCorner⟩, x7_NoCorner, x8_NoCorner, fun_mk (st := si_NoCorner) li_NoCorner cdi_NoCorner_ ki_NoCorner, (fun_mk (st := si_NoCorner) li_NoCorner cdi_NoCorner_ ki_NoCorner).binds (ps := ["self", "corner"]) fun _ _ _ _ _ _ us hl => match us, hl with | [_, _], _ => rfl, PySem.W.mg_of X G ac_NoCorner⟩
    xn_NoCorner_corner := xn_NoCorner_corner
    e_BadBridge := ⟨⟨⟨_, _, _, _, _, _, _, _, _, _, _, _, _, _, _, x1_BadBridge, x2_BadBridge⟩, x3_BadBridge, x4_BadBridge, x5_BadBridge, x6_BadBridge⟩, x7_BadBridge, x8_BadBridge, fun_mk (st := si_BadBridge) li_BadBridge cdi_BadBridge_ ki_BadBridge, (fun_mk (st := si_BadBridge) li_BadBridge cdi_BadBridge_ ki_BadBridge).binds (ps := ["self", "what", "joint"]) fun _ _ _ _ _ _ us hl => match us, hl with | [_, _, _], _ => rfl, PySem.W.mg_of X G ac_BadBridge⟩
    xn_BadBridge_what := xn_BadBridge_what
    xn_BadBridge_joint := xn_BadBridge_joint
    e_BadMotion := ⟨⟨⟨_, _, _, _, _, _, _, _, _, _, _, _, _, _, _, x1_BadMotion, x2_BadMotion⟩, x3_BadMotion, x4_BadMotion, x5_BadMotion, x6_BadMotion⟩, x7_BadMotion, x8_BadMotion, fun_mk (st := si_BadMotion) li_BadMotion cdi_BadMotion_ ki_BadMotion, (fun_mk (st := si_BadMotion) li_BadMotion cdi_BadMotion_ ki_BadMotion).binds (ps := ["self"]) fun _ _ _ _ _ _ us hl => match us, hl with | [_], _ => rfl, PySem.W.mg_of X G ac_BadMotion⟩
    e_BadWeights := ⟨⟨⟨_, _, _, _, _, _, _, _, _, _, _, _, _, _, _, x1_BadWeights, x2_BadWeights⟩, x3_BadWeights, x4_BadWeights, x5_BadWeights, x6_BadWeights⟩, x7_BadWeights, x8_BadWeights, fun_mk (st := si_BadWeights) li_BadWeights cdi_BadWeights_ ki_BadWeights, (fun_mk (st := si_BadWeights) li_BadWeights cdi_BadWeights_ ki_BadWeights).binds (ps := ["self", "what"]) fun _ _ _ _ _ _ us hl => match us, hl with | [_, _], _ => rfl, PySem.W.mg_of X G ac_BadWeights⟩
    xn_BadWeights_what := xn_BadWeights_what
    xm_BadForce_BridgeError := PySem.W.exm_ref e1_BridgeError e2_BridgeError e3_BridgeError es_BadForce_BridgeError
    xm_BadLoad_BridgeError := PySem.W.exm_ref e1_BridgeError e2_BridgeError e3_BridgeError es_BadLoad_BridgeError
    xm_OtherSize_BridgeError := PySem.W.exm_ref e1_BridgeError e2_BridgeError e3_BridgeError es_OtherSize_BridgeError
    xm_NoCorner_BridgeError := PySem.W.exm_ref e1_BridgeError e2_BridgeError e3_BridgeError es_NoCorner_BridgeError
    xm_BadBridge_BridgeError := PySem.W.exm_ref e1_BridgeError e2_BridgeError e3_BridgeError es_BadBridge_BridgeError
    xm_BadMotion_BridgeError := PySem.W.exm_ref e1_BridgeError e2_BridgeError e3_BridgeError es_BadMotion_BridgeError
    xm_BadWeights_BridgeError := PySem.W.exm_ref e1_BridgeError e2_BridgeError e3_BridgeError es_BadWeights_BridgeError
    y_BadBridge := ⟨y1_BadBridge, y2_BadBridge, y3_BadBridge, y4_BadBridge, y5_BadBridge, y6_BadBridge, y7_BadBridge, y8_BadBridge⟩
    y_BadForce := ⟨y1_BadForce, y2_BadForce, y3_BadForce, y4_BadForce, y5_BadForce, y6_BadForce, y7_BadForce, y8_BadForce⟩
    y_BadLoad := ⟨y1_BadLoad, y2_BadLoad, y3_BadLoad, y4_BadLoad, y5_BadLoad, y6_BadLoad, y7_BadLoad, y8_BadLoad⟩
    y_BadMotion := ⟨y1_BadMotion, y2_BadMotion, y3_BadMotion, y4_BadMotion, y5_BadMotion, y6_BadMotion, y7_BadMotion, y8_BadMotion⟩
    y_BadWeights := ⟨y1_BadWeights, y2_BadWeights, y3_BadWeights, y4_BadWeights, y5_BadWeights, y6_BadWeights, y7_BadWeights, y8_BadWeights⟩
    y_NoCorner := ⟨y1_NoCorner, y2_NoCorner, y3_NoCorner, y4_NoCorner, y5_NoCorner, y6_NoCorner, y7_NoCorner, y8_NoCorner⟩
    y_OtherSize := ⟨y1_OtherSize, y2_OtherSize, y3_OtherSize, y4_OtherSize, y5_OtherSize, y6_OtherSize, y7_OtherSize, y8_OtherSize⟩
    kt_BadBridge_BadWeights := kit_own hq_BadWeights hty_BadWeights sb_BadBridge_BadWeights (ref_ne ne_BadBridge_BadWeights)
    kt_BadBridge_OtherSize := kit_own hq_OtherSize hty_OtherSize sb_BadBridge_OtherSize (ref_ne ne_BadBridge_OtherSize)
    kt_BadForce_BadWeights := kit_own hq_BadWeights hty_BadWeights sb_BadForce_BadWeights (ref_ne ne_BadForce_BadWeights)
    kt_BadForce_OtherSize := kit_own hq_OtherSize hty_OtherSize sb_BadForce_OtherSize (ref_ne ne_BadForce_OtherSize)
    kt_BadLoad_BadWeights := kit_own hq_BadWeights hty_BadWeights sb_BadLoad_BadWeights (ref_ne ne_BadLoad_BadWeights)
    kt_BadLoad_OtherSize := kit_own hq_OtherSize hty_OtherSize sb_BadLoad_OtherSize (ref_ne ne_BadLoad_OtherSize)
    kt_BadMotion_BadWeights := kit_own hq_BadWeights hty_BadWeights sb_BadMotion_BadWeights (ref_ne ne_BadMotion_BadWeights)
    kt_BadMotion_OtherSize := kit_own hq_OtherSize hty_OtherSize sb_BadMotion_OtherSize (ref_ne ne_BadMotion_OtherSize)
    kt_BadWeights_BadWeights := kit_self
    kt_BadWeights_OtherSize := kit_own hq_OtherSize hty_OtherSize sb_BadWeights_OtherSize (ref_ne ne_BadWeights_OtherSize)
    kt_Bridge_Force := kit_own hq_Force hty_Force sb_Bridge_Force (ref_ne ne_Bridge_Force)
    kt_Bridge_Load := kit_own hq_Load hty_Load sb_Bridge_Load (ref_ne ne_Bridge_Load)
    kt_Bridge_Motion := kit_own hq_Motion hty_Motion sb_Bridge_Motion (ref_ne ne_Bridge_Motion)
    kt_Bridge_bool := kit_bt (by decide +kernel) sb_Bridge_bool
    kt_Bridge_int := kit_bt (by decide +kernel) sb_Bridge_int
    kt_Bridge_list := kit_bt (by decide +kernel) sb_Bridge_list
    kt_Bridge_tuple := kit_bt (by decide +kernel) sb_Bridge_tuple
    kt_Force_Force := kit_self
    kt_Force_Load := kit_own hq_Load hty_Load sb_Force_Load (ref_ne ne_Force_Load)
    kt_Force_Motion := kit_own hq_Motion hty_Motion sb_Force_Motion (ref_ne ne_Force_Motion)
    kt_Force_bool := kit_bt (by decide +kernel) sb_Force_bool
    kt_Force_int := kit_bt (by decide +kernel) sb_Force_int
    kt_Force_list := kit_bt (by decide +kernel) sb_Force_list
    kt_Force_tuple := kit_bt (by decide +kernel) sb_Force_tuple
    kt_Load_Force := kit_own hq_Force hty_Force sb_Load_Force (ref_ne ne_Load_Force)
    kt_Load_Load := kit_self
    kt_Load_Motion := kit_own hq_Motion hty_Motion sb_Load_Motion (ref_ne ne_Load_Motion)
    kt_Load_bool := kit_bt (by decide +kernel) sb_Load_bool
    kt_Load_int := kit_bt (by decide +kernel) sb_Load_int
    kt_Load_list := kit_bt (by decide +kernel) sb_Load_list
    kt_Load_tuple := kit_bt (by decide +kernel) sb_Load_tuple
    kt_Motion_Force := kit_own hq_Force hty_Force sb_Motion_Force (ref_ne ne_Motion_Force)
    kt_Motion_Load := kit_own hq_Load hty_Load sb_Motion_Load (ref_ne ne_Motion_Load)
    kt_Motion_Motion := kit_self
    kt_Motion_bool := kit_bt (by decide +kernel) sb_Motion_bool
    kt_Motion_int := kit_bt (by decide +kernel) sb_Motion_int
    kt_Motion_list := kit_bt (by decide +kernel) sb_Motion_list
    kt_Motion_tuple := kit_bt (by decide +kernel) sb_Motion_tuple
    kt_NoCorner_BadWeights := kit_own hq_BadWeights hty_BadWeights sb_NoCorner_BadWeights (ref_ne ne_NoCorner_BadWeights)
    kt_NoCorner_OtherSize := kit_own hq_OtherSize hty_OtherSize sb_NoCorner_OtherSize (ref_ne ne_NoCorner_OtherSize)
    kt_NoneType_Force := kit_own hq_Force hty_Force sb_NoneType_Force ty_ne
    kt_NoneType_Load := kit_own hq_Load hty_Load sb_NoneType_Load ty_ne
    kt_NoneType_Motion := kit_own hq_Motion hty_Motion sb_NoneType_Motion ty_ne
    kt_OtherSize_BadWeights := kit_own hq_BadWeights hty_BadWeights sb_OtherSize_BadWeights (ref_ne ne_OtherSize_BadWeights)
    kt_OtherSize_OtherSize := kit_self
    kt_Weights_Force := kit_own hq_Force hty_Force sb_Weights_Force (ref_ne ne_Weights_Force)
    kt_Weights_Load := kit_own hq_Load hty_Load sb_Weights_Load (ref_ne ne_Weights_Load)
    kt_Weights_Motion := kit_own hq_Motion hty_Motion sb_Weights_Motion (ref_ne ne_Weights_Motion)
    kt_Weights_bool := kit_bt (by decide +kernel) sb_Weights_bool
    kt_Weights_int := kit_bt (by decide +kernel) sb_Weights_int
    kt_Weights_list := kit_bt (by decide +kernel) sb_Weights_list
    kt_Weights_tuple := kit_bt (by decide +kernel) sb_Weights_tuple
    kt_bool_Force := kit_own hq_Force hty_Force sb_bool_Force ty_ne
    kt_bool_Load := kit_own hq_Load hty_Load sb_bool_Load ty_ne
    kt_bool_Motion := kit_own hq_Motion hty_Motion sb_bool_Motion ty_ne
    kt_int_Force := kit_own hq_Force hty_Force sb_int_Force ty_ne
    kt_int_Load := kit_own hq_Load hty_Load sb_int_Load ty_ne
    kt_int_Motion := kit_own hq_Motion hty_Motion sb_int_Motion ty_ne
    kt_list_Force := kit_own hq_Force hty_Force sb_list_Force ty_ne
    kt_list_Load := kit_own hq_Load hty_Load sb_list_Load ty_ne
    kt_list_Motion := kit_own hq_Motion hty_Motion sb_list_Motion ty_ne
    kt_str_Force := kit_own hq_Force hty_Force sb_str_Force ty_ne
    kt_str_Load := kit_own hq_Load hty_Load sb_str_Load ty_ne
    kt_str_Motion := kit_own hq_Motion hty_Motion sb_str_Motion ty_ne
    kt_tuple_Force := kit_own hq_Force hty_Force sb_tuple_Force ty_ne
    kt_tuple_Load := kit_own hq_Load hty_Load sb_tuple_Load ty_ne
    kt_tuple_Motion := kit_own hq_Motion hty_Motion sb_tuple_Motion ty_ne
    isc_Bridge := ⟨⟨pg_Bridge, hd_Bridge, po_Bridge, sa_Bridge⟩, y5_Bridge, y6_Bridge, y7_Bridge, y8_Bridge⟩
    isc_Force := ⟨⟨pg_Force, hd_Force, po_Force, sa_Force⟩, y5_Force, y6_Force, y7_Force, y8_Force⟩
    isc_Load := ⟨⟨pg_Load, hd_Load, po_Load, sa_Load⟩, y5_Load, y6_Load, y7_Load, y8_Load⟩
    isc_Motion := ⟨⟨pg_Motion, hd_Motion, po_Motion, sa_Motion⟩, y5_Motion, y6_Motion, y7_Motion, y8_Motion⟩
    isc_Weights := ⟨⟨pg_Weights, hd_Weights, po_Weights, sa_Weights⟩, y5_Weights, y6_Weights, y7_Weights, y8_Weights⟩
    gi_MOST_CORNERS := PySem.W.mg_of X G zg_MOST_CORNERS
    gi_LEAST_CORNERS := PySem.W.mg_of X G zg_LEAST_CORNERS
    gi_MOST_STONES := PySem.W.mg_of X G zg_MOST_STONES
    gi_FARTHEST := PySem.W.mg_of X G zg_FARTHEST
    n_abs := PySem.W.mg_none_of X G z_abs
    n_all := PySem.W.mg_none_of X G z_all
    n_bool := PySem.W.mg_none_of X G z_bool
    n_enumerate := PySem.W.mg_none_of X G z_enumerate
    n_int := PySem.W.mg_none_of X G z_int
    n_isinstance := PySem.W.mg_none_of X G z_isinstance
    n_iter := PySem.W.mg_none_of X G z_iter
    n_len := PySem.W.mg_none_of X G z_len
    n_list := PySem.W.mg_none_of X G z_list
    n_range := PySem.W.mg_none_of X G z_range
    n_tuple := PySem.W.mg_none_of X G z_tuple
    n_zip := PySem.W.mg_none_of X G z_zip }
  exact ⟨(PySem.W.fnOf "law" "law" (defArgs s_law) (defBody s_law) (defScope s_law) .none kV_law dc_law pm_law an_law cd_law ct_law), fun s v => .of_eq rfl, fun base _ _ => ok_law good T⟩
theorem no_way (P : Program) (w : World) (H : Hp) (s : Shared) (e : Value) (s' : Shared) : L2.CX P w [] H s (fun _ _ _ => False) e s' → False := fun z => by
  obtain ⟨_, _, _, _, _, _, _, _, _, _, _, _, q⟩ := z
  exact q
theorem walk {l : PySem.W.OpenLaw} {q : Program} {loose : List Str} {XP : (Str → Option Value) → Heap → Prop} {YP : World → Heap → Prop} {d : DefRec} {K : Params → PySem.W.Frag} (hn : l.most = some 63) (hdf : d.params.defaults = [])
    (hY : ∀ (w : World) (h : Heap), YP w h → (K w.params).In h)
    (F : ∀ (w : World) (mg : Str → Option Value) (fa : Addr) (h : Heap), (K w.params).In h → h.Ns mainGlobals mg → mg d.name = some (.ref fa) →
      ∃ fd : FuncData, (∀ (s : Shared) (u : Value), BindsTo s fd ⟨[u], []⟩ [("_law_script", u)]) ∧ ∀ base : Heap, (K w.params).In base → base.Ns mainGlobals mg → FnG l.prog w (K w.params) mg base (L2.CX l.prog w) 10 fa fd ["_law_script"] (spLaw (K w.params))) :
    PySem.W.WalkO q loose XP YP l.row.toRowW d [] (fun f vs => PySem.call f vs) :=
  walk_ofG (n := 63) (k := 10) (x := "_law_script") (CX := fun w => L2.CX l.prog w) (sp := fun w => spLaw (K w.params)) hn (by decide) hdf ⟨rfl, by decide, by decide⟩ hY F (fun _ _ a ns hl _ hS => ⟨a, ns, rfl, hS, hl, fun _ => rfl⟩) fun w H s e s' z => no_way l.prog w H s e s' z
end K13

set_option Elab.async false
set_option linter.all false
open PySem PySem.W PyProof.Rows
set_option maxRecDepth 100000 in
set_option maxHeartbeats 0 in
theorem PySem.Challenge.cw_fourhinges_k13_stones_turn_about_hinges_holds : PySem.Challenge.rw_fourhinges_k13_stones_turn_about_hinges.Holds := by
  w_on; o_law; k_head; (case hw => w_witness2)
  k_fill
  refine K13.walk (l := PySem.Challenge.rw_fourhinges_k13_stones_turn_about_hinges) rfl rfl (fun w h Y => PySem.W.kIn_of Y) ?F
  case F =>
    intro w mg fa h KX G hmg
    refine' K13.all_mk KX G hmg ?a__law_take ?l__law_take ?c__law_take ?k__law_take ?a__law_of ?l__law_of ?c__law_of ?k__law_of ?a__law_bag ?l__law_bag ?c__law_bag ?k__law_bag ?a__law_joint ?l__law_joint ?c__law_joint ?k__law_joint ?a__law_joints ?l__law_joints ?c__law_joints ?k__law_joints ?a__law_numbers ?l__law_numbers ?c__law_numbers ?k__law_numbers ?a_is_row ?l_is_row ?c_is_row ?k_is_row ?a_is_number ?l_is_number ?c_is_number ?k_is_number ?a_is_count ?l_is_count ?c_is_count ?k_is_count ?l_Weights___init__ ?c_Weights___init__ ?k_Weights___init__ ?a_is_whole ?l_is_whole ?c_is_whole ?k_is_whole ?a_is_point ?l_is_point ?c_is_point ?k_is_point ?a__checked_joint ?l__checked_joint ?c__checked_joint ?k__checked_joint ?a__checked_joints ?l__checked_joints ?c__checked_joints ?k__checked_joints ?a__check_stones ?l__check_stones ?c__check_stones ?k__check_stones ?l_Load___init__ ?c_Load___init__ ?k_Load___init__ ?l_Force___init__ ?c_Force___init__ ?k_Force___init__ ?l_Force_none ?c_Force_none ?k_Force_none ?l_Load_none ?c_Load_none ?k_Load_none ?l_Load___len__ ?c_Load___len__ ?k_Load___len__ ?a__checked_own ?l__checked_own ?c__checked_own ?k__checked_own ?l_Bridge___init__ ?c_Bridge___init__ ?k_Bridge___init__ ?lt_Bridge___init__ ?l_Weights___len__ ?c_Weights___len__ ?k_Weights___len__ ?a_check_weights ?l_check_weights ?c_check_weights ?k_check_weights ?l_Motion___init__ ?c_Motion___init__ ?k_Motion___init__ ?l_Motion_none ?c_Motion_none ?k_Motion_none ?l_Motion_turning ?c_Motion_turning ?k_Motion_turning ?lt_Motion_turning ?a_side_of ?l_side_of ?c_side_of ?k_side_of ?l_Weights___getitem__ ?c_Weights___getitem__ ?k_Weights___getitem__ ?l_Bridge_point ?c_Bridge_point ?k_Bridge_point ?l_Motion___add__ ?c_Motion___add__ ?k_Motion___add__ ?a__motion_behind ?l__motion_behind ?c__motion_behind ?k__motion_behind ?a_stone_motions ?l_stone_motions ?c_stone_motions ?k_stone_motions ?a_motion_of ?l_motion_of ?c_motion_of ?k_motion_of ?a__law_plain ?l__law_plain ?c__law_plain ?k__law_plain ?a__law_corner ?l__law_corner ?c__law_corner ?k__law_corner ?a__law_motion ?l__law_motion ?c__law_motion ?k__law_motion ?a__law_at ?l__law_at ?c__law_at ?k__law_at ?a__law_joint_opens ?l__law_joint_opens ?c__law_joint_opens ?k__law_joint_opens ?a__law_all ?l__law_all ?c__law_all ?k__law_all ?l_Weights___mul__ ?c_Weights___mul__ ?k_Weights___mul__ ?l_Weights___add__ ?c_Weights___add__ ?k_Weights___add__ ?l_Weights___iter__ ?c_Weights___iter__ ?k_Weights___iter__ ?a__law_other_size ?l__law_other_size ?c__law_other_size ?k__law_other_size ?a_law ?l_law ?c_law ?k_law ?ac_BridgeError ?ac_BadForce ?ac_BadLoad ?ac_OtherSize ?ac_NoStone ?ac_NoCorner ?ac_BadBridge ?ac_NoPart ?ac_BadMotion ?ac_BadWeights ?ac_Force ?ac_Load ?ac_Bridge ?ac_Motion ?ac_Weights ?pg_Force ?hd_Force ?po_Force ?sa_Force ?na_Force_across ?na_Force_up ?na_Force_moment ?pg_Load ?hd_Load ?po_Load ?sa_Load ?na_Load_forces ?pg_Bridge ?hd_Bridge ?po_Bridge ?sa_Bridge ?na_Bridge_joints ?na_Bridge_stones ?na_Bridge_corner_count ?na_Bridge_own ?pg_Motion ?hd_Motion ?po_Motion ?sa_Motion ?na_Motion_across ?na_Motion_up ?na_Motion_turn ?pg_Weights ?hd_Weights ?po_Weights ?sa_Weights ?na_Weights_numbers ?mk_Weights ?fi_Weights ?fn_Weights___init__ ?kc_Weights ?mk_Load ?fi_Load ?fn_Load___init__ ?kc_Load ?mk_Force ?fi_Force ?fn_Force___init__ ?kc_Force ?mk_Bridge ?fi_Bridge ?fn_Bridge___init__ ?kc_Bridge ?mk_Motion ?fi_Motion ?fn_Motion___init__ ?kc_Motion ?sf_Motion ?of_Motion___add__ ?fn_Motion___add__ ?sf_Weights ?of_Weights___mul__ ?fn_Weights___mul__ ?of_Weights___add__ ?fn_Weights___add__ ?or_Weights___mul__ ?o1_Weights___mul__ ?o2_Weights___mul__ ?o3_Weights___mul__ ?of_Load___len__ ?fn_Load___len__ ?ci_Load___len__ ?of_Weights___len__ ?fn_Weights___len__ ?ci_Weights___len__ ?of_Weights___getitem__ ?fn_Weights___getitem__ ?ci_Weights___getitem__ ?of_Weights___iter__ ?fn_Weights___iter__ ?ci_Weights___iter__ ?cr_Force_none ?cg_Force_none ?cf_Force_none ?cc_Force_none ?ci_Force_none ?cr_Load_none ?cg_Load_none ?cf_Load_none ?cc_Load_none ?ci_Load_none ?cr_Motion_none ?cg_Motion_none ?cf_Motion_none ?cc_Motion_none ?ci_Motion_none ?cr_Motion_turning ?cg_Motion_turning ?cf_Motion_turning ?cc_Motion_turning ?ci_Motion_turning ?mf_Bridge_point ?fn_Bridge_point ?x1_BadForce ?x2_BadForce ?x3_BadForce ?x4_BadForce ?x5_BadForce ?x6_BadForce ?x7_BadForce ?x8_BadForce ?li_BadForce ?cdi_BadForce_ ?ki_BadForce ?xn_BadForce_what ?x1_BadLoad ?x2_BadLoad ?x3_BadLoad ?x4_BadLoad ?x5_BadLoad ?x6_BadLoad ?x7_BadLoad ?x8_BadLoad ?li_BadLoad ?cdi_BadLoad_ ?ki_BadLoad ?xn_BadLoad_what ?x1_OtherSize ?x2_OtherSize ?x3_OtherSize ?x4_OtherSize ?x5_OtherSize ?x6_OtherSize ?x7_OtherSize ?x8_OtherSize ?li_OtherSize ?cdi_OtherSize_ ?ki_OtherSize ?x1_NoCorner ?x2_NoCorner ?x3_NoCorner ?x4_NoCorner ?x5_NoCorner ?x6_NoCorner ?x7_NoCorner ?x8_NoCorner ?li_NoCorner ?cdi_NoCorner_ ?ki_NoCorner ?xn_NoCorner_corner ?x1_BadBridge ?x2_BadBridge ?x3_BadBridge ?x4_BadBridge ?x5_BadBridge ?x6_BadBridge ?x7_BadBridge ?x8_BadBridge ?li_BadBridge ?cdi_BadBridge_ ?ki_BadBridge ?xn_BadBridge_what ?xn_BadBridge_joint ?x1_BadMotion ?x2_BadMotion ?x3_BadMotion ?x4_BadMotion ?x5_BadMotion ?x6_BadMotion ?x7_BadMotion ?x8_BadMotion ?li_BadMotion ?cdi_BadMotion_ ?ki_BadMotion ?x1_BadWeights ?x2_BadWeights ?x3_BadWeights ?x4_BadWeights ?x5_BadWeights ?x6_BadWeights ?x7_BadWeights ?x8_BadWeights ?li_BadWeights ?cdi_BadWeights_ ?ki_BadWeights ?xn_BadWeights_what ?e1_BridgeError ?e2_BridgeError ?e3_BridgeError ?es_BadForce_BridgeError ?es_BadLoad_BridgeError ?es_OtherSize_BridgeError ?es_NoCorner_BridgeError ?es_BadBridge_BridgeError ?es_BadMotion_BridgeError ?es_BadWeights_BridgeError ?y1_BadBridge ?y2_BadBridge ?y3_BadBridge ?y4_BadBridge ?y5_BadBridge ?y6_BadBridge ?y7_BadBridge ?y8_BadBridge ?y1_BadForce ?y2_BadForce ?y3_BadForce ?y4_BadForce ?y5_BadForce ?y6_BadForce ?y7_BadForce ?y8_BadForce ?y1_BadLoad ?y2_BadLoad ?y3_BadLoad ?y4_BadLoad ?y5_BadLoad ?y6_BadLoad ?y7_BadLoad ?y8_BadLoad ?y1_BadMotion ?y2_BadMotion ?y3_BadMotion ?y4_BadMotion ?y5_BadMotion ?y6_BadMotion ?y7_BadMotion ?y8_BadMotion ?y1_BadWeights ?y2_BadWeights ?y3_BadWeights ?y4_BadWeights ?y5_BadWeights ?y6_BadWeights ?y7_BadWeights ?y8_BadWeights ?y1_NoCorner ?y2_NoCorner ?y3_NoCorner ?y4_NoCorner ?y5_NoCorner ?y6_NoCorner ?y7_NoCorner ?y8_NoCorner ?y1_OtherSize ?y2_OtherSize ?y3_OtherSize ?y4_OtherSize ?y5_OtherSize ?y6_OtherSize ?y7_OtherSize ?y8_OtherSize ?hq_BadWeights ?hty_BadWeights ?sb_BadBridge_BadWeights ?ne_BadBridge_BadWeights ?hq_OtherSize ?hty_OtherSize ?sb_BadBridge_OtherSize ?ne_BadBridge_OtherSize ?sb_BadForce_BadWeights ?ne_BadForce_BadWeights ?sb_BadForce_OtherSize ?ne_BadForce_OtherSize ?sb_BadLoad_BadWeights ?ne_BadLoad_BadWeights ?sb_BadLoad_OtherSize ?ne_BadLoad_OtherSize ?sb_BadMotion_BadWeights ?ne_BadMotion_BadWeights ?sb_BadMotion_OtherSize ?ne_BadMotion_OtherSize ?sb_BadWeights_OtherSize ?ne_BadWeights_OtherSize ?hq_Force ?hty_Force ?sb_Bridge_Force ?ne_Bridge_Force ?hq_Load ?hty_Load ?sb_Bridge_Load ?ne_Bridge_Load ?hq_Motion ?hty_Motion ?sb_Bridge_Motion ?ne_Bridge_Motion ?sb_Bridge_bool ?sb_Bridge_int ?sb_Bridge_list ?sb_Bridge_tuple ?sb_Force_Load ?ne_Force_Load ?sb_Force_Motion ?ne_Force_Motion ?sb_Force_bool ?sb_Force_int ?sb_Force_list ?sb_Force_tuple ?sb_Load_Force ?ne_Load_Force ?sb_Load_Motion ?ne_Load_Motion ?sb_Load_bool ?sb_Load_int ?sb_Load_list ?sb_Load_tuple ?sb_Motion_Force ?ne_Motion_Force ?sb_Motion_Load ?ne_Motion_Load ?sb_Motion_bool ?sb_Motion_int ?sb_Motion_list ?sb_Motion_tuple ?sb_NoCorner_BadWeights ?ne_NoCorner_BadWeights ?sb_NoCorner_OtherSize ?ne_NoCorner_OtherSize ?sb_NoneType_Force ?sb_NoneType_Load ?sb_NoneType_Motion ?sb_OtherSize_BadWeights ?ne_OtherSize_BadWeights ?sb_Weights_Force ?ne_Weights_Force ?sb_Weights_Load ?ne_Weights_Load ?sb_Weights_Motion ?ne_Weights_Motion ?sb_Weights_bool ?sb_Weights_int ?sb_Weights_list ?sb_Weights_tuple ?sb_bool_Force ?sb_bool_Load ?sb_bool_Motion ?sb_int_Force ?sb_int_Load ?sb_int_Motion ?sb_list_Force ?sb_list_Load ?sb_list_Motion ?sb_str_Force ?sb_str_Load ?sb_str_Motion ?sb_tuple_Force ?sb_tuple_Load ?sb_tuple_Motion ?y5_Bridge ?y6_Bridge ?y7_Bridge ?y8_Bridge ?y5_Force ?y6_Force ?y7_Force ?y8_Force ?y5_Load ?y6_Load ?y7_Load ?y8_Load ?y5_Motion ?y6_Motion ?y7_Motion ?y8_Motion ?y5_Weights ?y6_Weights ?y7_Weights ?y8_Weights ?zg_MOST_CORNERS ?zg_LEAST_CORNERS ?zg_MOST_STONES ?zg_FARTHEST ?z_abs ?z_all ?z_bool ?z_enumerate ?z_int ?z_isinstance ?z_iter ?z_len ?z_list ?z_range ?z_tuple ?z_zip
    (case a__law_take => k_is)
    (case a__law_of => k_is)
    (case a__law_bag => k_is)
    (case a__law_joint => k_is)
    (case a__law_joints => k_is)
    (case a__law_numbers => k_is)
    (case a_is_row => k_is)
    (case a_is_number => k_is)
    (case a_is_count => k_is)
    (case a_is_whole => k_is)
    (case a_is_point => k_is)
    (case a__checked_joint => k_is)
    (case a__checked_joints => k_is)
    (case a__check_stones => k_is)
    (case a__checked_own => k_is)
    (case a_check_weights => k_is)
    (case a_side_of => k_is)
    (case a__motion_behind => k_is)
    (case a_stone_motions => k_is)
    (case a_motion_of => k_is)
    (case a__law_plain => k_is)
    (case a__law_corner => k_is)
    (case a__law_motion => k_is)
    (case a__law_at => k_is)
    (case a__law_joint_opens => k_is)
    (case a__law_all => k_is)
    (case a__law_other_size => k_is)
    (case a_law => k_is)
    (case ac_BridgeError => k_is)
    (case ac_BadForce => k_is)
    (case ac_BadLoad => k_is)
    (case ac_OtherSize => k_is)
    (case ac_NoStone => k_is)
    (case ac_NoCorner => k_is)
    (case ac_BadBridge => k_is)
    (case ac_NoPart => k_is)
    (case ac_BadMotion => k_is)
    (case ac_BadWeights => k_is)
    (case ac_Force => k_is)
    (case ac_Load => k_is)
    (case ac_Bridge => k_is)
    (case ac_Motion => k_is)
    (case ac_Weights => k_is)
    (case fi_Weights => k_is)
    (case fi_Load => k_is)
    (case fi_Force => k_is)
    (case fi_Bridge => k_is)
    (case fi_Motion => k_is)
    (case of_Motion___add__ => k_is)
    (case of_Weights___mul__ => k_is)
    (case of_Weights___add__ => k_is)
    (case of_Load___len__ => k_is)
    (case of_Weights___len__ => k_is)
    (case of_Weights___getitem__ => k_is)
    (case of_Weights___iter__ => k_is)
    (case cf_Force_none => k_is)
    (case cf_Load_none => k_is)
    (case cf_Motion_none => k_is)
    (case cf_Motion_turning => k_is)
    (case mf_Bridge_point => k_is)
    (case x7_BadForce => k_is)
    (case x7_BadLoad => k_is)
    (case x7_OtherSize => k_is)
    (case x7_NoCorner => k_is)
    (case x7_BadBridge => k_is)
    (case x7_BadMotion => k_is)
    (case x7_BadWeights => k_is)
    (case cc_Force_none => k_is)
    (case cc_Load_none => k_is)
    (case cc_Motion_none => k_is)
    (case cc_Motion_turning => k_is)
    (case l__law_take => k_is)
    (case c__law_take => k_is)
    (case k__law_take => k_is)
    (case l__law_of => k_is)
    (case c__law_of => k_is)
    (case k__law_of => k_is)
    (case l__law_bag => k_is)
    (case c__law_bag => k_is)
    (case k__law_bag => k_is)
    (case l__law_joint => k_is)
    (case c__law_joint => k_is)
    (case k__law_joint => k_is)
    (case l__law_joints => k_is)
    (case c__law_joints => k_is)
    (case k__law_joints => k_is)
    (case l__law_numbers => k_is)
    (case c__law_numbers => k_is)
    (case k__law_numbers => k_is)
    (case l_is_row => k_is)
    (case c_is_row => k_is)
    (case k_is_row => k_is)
    (case l_is_number => k_is)
    (case c_is_number => k_is)
    (case k_is_number => k_is)
    (case l_is_count => k_is)
    (case c_is_count => k_is)
    (case k_is_count => k_is)
    (case l_Weights___init__ => k_is)
    (case c_Weights___init__ => k_is)
    (case k_Weights___init__ => k_is)
    (case l_is_whole => k_is)
    (case c_is_whole => k_is)
    (case k_is_whole => k_is)
    (case l_is_point => k_is)
    (case c_is_point => k_is)
    (case k_is_point => k_is)
    (case l__checked_joint => k_is)
    (case c__checked_joint => k_is)
    (case k__checked_joint => k_is)
    (case l__checked_joints => k_is)
    (case c__checked_joints => k_is)
    (case k__checked_joints => k_is)
    (case l__check_stones => k_is)
    (case c__check_stones => k_is)
    (case k__check_stones => k_is)
    (case l_Load___init__ => k_is)
    (case c_Load___init__ => k_is)
    (case k_Load___init__ => k_is)
    (case l_Force___init__ => k_is)
    (case c_Force___init__ => k_is)
    (case k_Force___init__ => k_is)
    (case l_Force_none => k_is)
    (case c_Force_none => k_is)
    (case k_Force_none => k_is)
    (case l_Load_none => k_is)
    (case c_Load_none => k_is)
    (case k_Load_none => k_is)
    (case l_Load___len__ => k_is)
    (case c_Load___len__ => k_is)
    (case k_Load___len__ => k_is)
    (case l__checked_own => k_is)
    (case c__checked_own => k_is)
    (case k__checked_own => k_is)
    (case l_Bridge___init__ => k_is)
    (case c_Bridge___init__ => k_is)
    (case k_Bridge___init__ => k_is)
    (case lt_Bridge___init__ => k_is)
    (case l_Weights___len__ => k_is)
    (case c_Weights___len__ => k_is)
    (case k_Weights___len__ => k_is)
    (case l_check_weights => k_is)
    (case c_check_weights => k_is)
    (case k_check_weights => k_is)
    (case l_Motion___init__ => k_is)
    (case c_Motion___init__ => k_is)
    (case k_Motion___init__ => k_is)
    (case l_Motion_none => k_is)
    (case c_Motion_none => k_is)
    (case k_Motion_none => k_is)
    (case l_Motion_turning => k_is)
    (case c_Motion_turning => k_is)
    (case k_Motion_turning => k_is)
    (case lt_Motion_turning => k_is)
    (case l_side_of => k_is)
    (case c_side_of => k_is)
    (case k_side_of => k_is)
    (case l_Weights___getitem__ => k_is)
    (case c_Weights___getitem__ => k_is)
    (case k_Weights___getitem__ => k_is)
    (case l_Bridge_point => k_is)
    (case c_Bridge_point => k_is)
    (case k_Bridge_point => k_is)
    (case l_Motion___add__ => k_is)
    (case c_Motion___add__ => k_is)
    (case k_Motion___add__ => k_is)
    (case l__motion_behind => k_is)
    (case c__motion_behind => k_is)
    (case k__motion_behind => k_is)
    (case l_stone_motions => k_is)
    (case c_stone_motions => k_is)
    (case k_stone_motions => k_is)
    (case l_motion_of => k_is)
    (case c_motion_of => k_is)
    (case k_motion_of => k_is)
    (case l__law_plain => k_is)
    (case c__law_plain => k_is)
    (case k__law_plain => k_is)
    (case l__law_corner => k_is)
    (case c__law_corner => k_is)
    (case k__law_corner => k_is)
    (case l__law_motion => k_is)
    (case c__law_motion => k_is)
    (case k__law_motion => k_is)
    (case l__law_at => k_is)
    (case c__law_at => k_is)
    (case k__law_at => k_is)
    (case l__law_joint_opens => k_is)
    (case c__law_joint_opens => k_is)
    (case k__law_joint_opens => k_is)
    (case l__law_all => k_is)
    (case c__law_all => k_is)
    (case k__law_all => k_is)
    (case l_Weights___mul__ => k_is)
    (case c_Weights___mul__ => k_is)
    (case k_Weights___mul__ => k_is)
    (case l_Weights___add__ => k_is)
    (case c_Weights___add__ => k_is)
    (case k_Weights___add__ => k_is)
    (case l_Weights___iter__ => k_is)
    (case c_Weights___iter__ => k_is)
    (case k_Weights___iter__ => k_is)
    (case l__law_other_size => k_is)
    (case c__law_other_size => k_is)
    (case k__law_other_size => k_is)
    (case l_law => k_is)
    (case c_law => k_is)
    (case k_law => k_is)
    (case pg_Force => k_is)
    (case hd_Force => k_is)
    (case po_Force => k_is)
    (case sa_Force => k_is)
    (case na_Force_across => k_is)
    (case na_Force_up => k_is)
    (case na_Force_moment => k_is)
    (case pg_Load => k_is)
    (case hd_Load => k_is)
    (case po_Load => k_is)
    (case sa_Load => k_is)
    (case na_Load_forces => k_is)
    (case pg_Bridge => k_is)
    (case hd_Bridge => k_is)
    (case po_Bridge => k_is)
    (case sa_Bridge => k_is)
    (case na_Bridge_joints => k_is)
    (case na_Bridge_stones => k_is)
    (case na_Bridge_corner_count => k_is)
    (case na_Bridge_own => k_is)
    (case pg_Motion => k_is)
    (case hd_Motion => k_is)
    (case po_Motion => k_is)
    (case sa_Motion => k_is)
    (case na_Motion_across => k_is)
    (case na_Motion_up => k_is)
    (case na_Motion_turn => k_is)
    (case pg_Weights => k_is)
    (case hd_Weights => k_is)
    (case po_Weights => k_is)
    (case sa_Weights => k_is)
    (case na_Weights_numbers => k_is)
    (case mk_Weights => k_is)
    (case fn_Weights___init__ => k_is)
    (case kc_Weights => k_is)
    (case mk_Load => k_is)
    (case fn_Load___init__ => k_is)
    (case kc_Load => k_is)
    (case mk_Force => k_is)
    (case fn_Force___init__ => k_is)
    (case kc_Force => k_is)
    (case mk_Bridge => k_is)
    (case fn_Bridge___init__ => k_is)
    (case kc_Bridge => k_is)
    (case mk_Motion => k_is)
    (case fn_Motion___init__ => k_is)
    (case kc_Motion => k_is)
    (case sf_Motion => k_is)
    (case fn_Motion___add__ => k_is)
    (case sf_Weights => k_is)
    (case fn_Weights___mul__ => k_is)
    (case fn_Weights___add__ => k_is)
    (case or_Weights___mul__ => k_is)
    (case o1_Weights___mul__ => k_is)
    (case o2_Weights___mul__ => k_is)
    (case o3_Weights___mul__ => k_is)
    (case fn_Load___len__ => k_is)
    (case ci_Load___len__ => k_is)
    (case fn_Weights___len__ => k_is)
    (case ci_Weights___len__ => k_is)
    (case fn_Weights___getitem__ => k_is)
    (case ci_Weights___getitem__ => k_is)
    (case fn_Weights___iter__ => k_is)
    (case ci_Weights___iter__ => k_is)
    (case cr_Force_none => k_is)
    (case cg_Force_none => k_is)
    (case ci_Force_none => k_is)
    (case cr_Load_none => k_is)
    (case cg_Load_none => k_is)
    (case ci_Load_none => k_is)
    (case cr_Motion_none => k_is)
    (case cg_Motion_none => k_is)
    (case ci_Motion_none => k_is)
    (case cr_Motion_turning => k_is)
    (case cg_Motion_turning => k_is)
    (case ci_Motion_turning => k_is)
    (case fn_Bridge_point => k_is)
    (case x1_BadForce => k_is)
    (case x2_BadForce => decide +kernel)
    (case x3_BadForce => k_is)
    (case x4_BadForce => k_is)
    (case x5_BadForce => k_is)
    (case x6_BadForce => k_is)
    (case x8_BadForce => k_is)
    (case li_BadForce => k_is)
    (case cdi_BadForce_ => k_is)
    (case ki_BadForce => k_is)
    (case xn_BadForce_what => k_is)
    (case x1_BadLoad => k_is)
    (case x2_BadLoad => decide +kernel)
    (case x3_BadLoad => k_is)
    (case x4_BadLoad => k_is)
    (case x5_BadLoad => k_is)
    (case x6_BadLoad => k_is)
    (case x8_BadLoad => k_is)
    (case li_BadLoad => k_is)
    (case cdi_BadLoad_ => k_is)
    (case ki_BadLoad => k_is)
    (case xn_BadLoad_what => k_is)
    (case x1_OtherSize => k_is)
    (case x2_OtherSize => decide +kernel)
    (case x3_OtherSize => k_is)
    (case x4_OtherSize => k_is)
    (case x5_OtherSize => k_is)
    (case x6_OtherSize => k_is)
    (case x8_OtherSize => k_is)
    (case li_OtherSize => k_is)
    (case cdi_OtherSize_ => k_is)
    (case ki_OtherSize => k_is)
    (case x1_NoCorner => k_is)
    (case x2_NoCorner => decide +kernel)
    (case x3_NoCorner => k_is)
    (case x4_NoCorner => k_is)
    (case x5_NoCorner => k_is)
    (case x6_NoCorner => k_is)
    (case x8_NoCorner => k_is)
    (case li_NoCorner => k_is)
    (case cdi_NoCorner_ => k_is)
    (case ki_NoCorner => k_is)
    (case xn_NoCorner_corner => k_is)
    (case x1_BadBridge => k_is)
    (case x2_BadBridge => decide +kernel)
    (case x3_BadBridge => k_is)
    (case x4_BadBridge => k_is)
    (case x5_BadBridge => k_is)
    (case x6_BadBridge => k_is)
    (case x8_BadBridge => k_is)
    (case li_BadBridge => k_is)
    (case cdi_BadBridge_ => k_is)
    (case ki_BadBridge => k_is)
    (case xn_BadBridge_what => k_is)
    (case xn_BadBridge_joint => k_is)
    (case x1_BadMotion => k_is)
    (case x2_BadMotion => decide +kernel)
    (case x3_BadMotion => k_is)
    (case x4_BadMotion => k_is)
    (case x5_BadMotion => k_is)
    (case x6_BadMotion => k_is)
    (case x8_BadMotion => k_is)
    (case li_BadMotion => k_is)
    (case cdi_BadMotion_ => k_is)
    (case ki_BadMotion => k_is)
    (case x1_BadWeights => k_is)
    (case x2_BadWeights => decide +kernel)
    (case x3_BadWeights => k_is)
    (case x4_BadWeights => k_is)
    (case x5_BadWeights => k_is)
    (case x6_BadWeights => k_is)
    (case x8_BadWeights => k_is)
    (case li_BadWeights => k_is)
    (case cdi_BadWeights_ => k_is)
    (case ki_BadWeights => k_is)
    (case xn_BadWeights_what => k_is)
    (case e1_BridgeError => k_is)
    (case e2_BridgeError => k_is)
    (case e3_BridgeError => k_is)
    (case es_BadForce_BridgeError => k_is)
    (case es_BadLoad_BridgeError => k_is)
    (case es_OtherSize_BridgeError => k_is)
    (case es_NoCorner_BridgeError => k_is)
    (case es_BadBridge_BridgeError => k_is)
    (case es_BadMotion_BridgeError => k_is)
    (case es_BadWeights_BridgeError => k_is)
    (case y1_BadBridge => k_is)
    (case y2_BadBridge => k_is)
    (case y3_BadBridge => k_is)
    (case y4_BadBridge => k_is)
    (case y5_BadBridge => k_is)
    (case y6_BadBridge => k_is)
    (case y7_BadBridge => k_is)
    (case y8_BadBridge => k_is)
    (case y1_BadForce => k_is)
    (case y2_BadForce => k_is)
    (case y3_BadForce => k_is)
    (case y4_BadForce => k_is)
    (case y5_BadForce => k_is)
    (case y6_BadForce => k_is)
    (case y7_BadForce => k_is)
    (case y8_BadForce => k_is)
    (case y1_BadLoad => k_is)
    (case y2_BadLoad => k_is)
    (case y3_BadLoad => k_is)
    (case y4_BadLoad => k_is)
    (case y5_BadLoad => k_is)
    (case y6_BadLoad => k_is)
    (case y7_BadLoad => k_is)
    (case y8_BadLoad => k_is)
    (case y1_BadMotion => k_is)
    (case y2_BadMotion => k_is)
    (case y3_BadMotion => k_is)
    (case y4_BadMotion => k_is)
    (case y5_BadMotion => k_is)
    (case y6_BadMotion => k_is)
    (case y7_BadMotion => k_is)
    (case y8_BadMotion => k_is)
    (case y1_BadWeights => k_is)
    (case y2_BadWeights => k_is)
    (case y3_BadWeights => k_is)
    (case y4_BadWeights => k_is)
    (case y5_BadWeights => k_is)
    (case y6_BadWeights => k_is)
    (case y7_BadWeights => k_is)
    (case y8_BadWeights => k_is)
    (case y1_NoCorner => k_is)
    (case y2_NoCorner => k_is)
    (case y3_NoCorner => k_is)
    (case y4_NoCorner => k_is)
    (case y5_NoCorner => k_is)
    (case y6_NoCorner => k_is)
    (case y7_NoCorner => k_is)
    (case y8_NoCorner => k_is)
    (case y1_OtherSize => k_is)
    (case y2_OtherSize => k_is)
    (case y3_OtherSize => k_is)
    (case y4_OtherSize => k_is)
    (case y5_OtherSize => k_is)
    (case y6_OtherSize => k_is)
    (case y7_OtherSize => k_is)
    (case y8_OtherSize => k_is)
    (case hq_BadWeights => k_is)
    (case hty_BadWeights => k_is)
    (case sb_BadBridge_BadWeights => k_is)
    (case ne_BadBridge_BadWeights => decide)
    (case hq_OtherSize => k_is)
    (case hty_OtherSize => k_is)
    (case sb_BadBridge_OtherSize => k_is)
    (case ne_BadBridge_OtherSize => decide)
    (case sb_BadForce_BadWeights => k_is)
    (case ne_BadForce_BadWeights => decide)
    (case sb_BadForce_OtherSize => k_is)
    (case ne_BadForce_OtherSize => decide)
    (case sb_BadLoad_BadWeights => k_is)
    (case ne_BadLoad_BadWeights => decide)
    (case sb_BadLoad_OtherSize => k_is)
    (case ne_BadLoad_OtherSize => decide)
    (case sb_BadMotion_BadWeights => k_is)
    (case ne_BadMotion_BadWeights => decide)
    (case sb_BadMotion_OtherSize => k_is)
    (case ne_BadMotion_OtherSize => decide)
    (case sb_BadWeights_OtherSize => k_is)
    (case ne_BadWeights_OtherSize => decide)
    (case hq_Force => k_is)
    (case hty_Force => k_is)
    (case sb_Bridge_Force => k_is)
    (case ne_Bridge_Force => decide)
    (case hq_Load => k_is)
    (case hty_Load => k_is)
    (case sb_Bridge_Load => k_is)
    (case ne_Bridge_Load => decide)
    (case hq_Motion => k_is)
    (case hty_Motion => k_is)
    (case sb_Bridge_Motion => k_is)
    (case ne_Bridge_Motion => decide)
    (case sb_Bridge_bool => k_is)
    (case sb_Bridge_int => k_is)
    (case sb_Bridge_list => k_is)
    (case sb_Bridge_tuple => k_is)
    (case sb_Force_Load => k_is)
    (case ne_Force_Load => decide)
    (case sb_Force_Motion => k_is)
    (case ne_Force_Motion => decide)
    (case sb_Force_bool => k_is)
    (case sb_Force_int => k_is)
    (case sb_Force_list => k_is)
    (case sb_Force_tuple => k_is)
    (case sb_Load_Force => k_is)
    (case ne_Load_Force => decide)
    (case sb_Load_Motion => k_is)
    (case ne_Load_Motion => decide)
    (case sb_Load_bool => k_is)
    (case sb_Load_int => k_is)
    (case sb_Load_list => k_is)
    (case sb_Load_tuple => k_is)
    (case sb_Motion_Force => k_is)
    (case ne_Motion_Force => decide)
    (case sb_Motion_Load => k_is)
    (case ne_Motion_Load => decide)
    (case sb_Motion_bool => k_is)
    (case sb_Motion_int => k_is)
    (case sb_Motion_list => k_is)
    (case sb_Motion_tuple => k_is)
    (case sb_NoCorner_BadWeights => k_is)
    (case ne_NoCorner_BadWeights => decide)
    (case sb_NoCorner_OtherSize => k_is)
    (case ne_NoCorner_OtherSize => decide)
    (case sb_NoneType_Force => k_is)
    (case sb_NoneType_Load => k_is)
    (case sb_NoneType_Motion => k_is)
    (case sb_OtherSize_BadWeights => k_is)
    (case ne_OtherSize_BadWeights => decide)
    (case sb_Weights_Force => k_is)
    (case ne_Weights_Force => decide)
    (case sb_Weights_Load => k_is)
    (case ne_Weights_Load => decide)
    (case sb_Weights_Motion => k_is)
    (case ne_Weights_Motion => decide)
    (case sb_Weights_bool => k_is)
    (case sb_Weights_int => k_is)
    (case sb_Weights_list => k_is)
    (case sb_Weights_tuple => k_is)
    (case sb_bool_Force => k_is)
    (case sb_bool_Load => k_is)
    (case sb_bool_Motion => k_is)
    (case sb_int_Force => k_is)
    (case sb_int_Load => k_is)
    (case sb_int_Motion => k_is)
    (case sb_list_Force => k_is)
    (case sb_list_Load => k_is)
    (case sb_list_Motion => k_is)
    (case sb_str_Force => k_is)
    (case sb_str_Load => k_is)
    (case sb_str_Motion => k_is)
    (case sb_tuple_Force => k_is)
    (case sb_tuple_Load => k_is)
    (case sb_tuple_Motion => k_is)
    (case y5_Bridge => k_is)
    (case y6_Bridge => k_is)
    (case y7_Bridge => k_is)
    (case y8_Bridge => k_is)
    (case y5_Force => k_is)
    (case y6_Force => k_is)
    (case y7_Force => k_is)
    (case y8_Force => k_is)
    (case y5_Load => k_is)
    (case y6_Load => k_is)
    (case y7_Load => k_is)
    (case y8_Load => k_is)
    (case y5_Motion => k_is)
    (case y6_Motion => k_is)
    (case y7_Motion => k_is)
    (case y8_Motion => k_is)
    (case y5_Weights => k_is)
    (case y6_Weights => k_is)
    (case y7_Weights => k_is)
    (case y8_Weights => k_is)
    (case zg_MOST_CORNERS => k_is)
    (case zg_LEAST_CORNERS => k_is)
    (case zg_MOST_STONES => k_is)
    (case zg_FARTHEST => k_is)
    (case z_abs => k_is)
    (case z_all => k_is)
    (case z_bool => k_is)
    (case z_enumerate => k_is)
    (case z_int => k_is)
    (case z_isinstance => k_is)
    (case z_iter => k_is)
    (case z_len => k_is)
    (case z_list => k_is)
    (case z_range => k_is)
    (case z_tuple => k_is)
    (case z_zip => k_is)

